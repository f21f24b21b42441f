/- shuntref03.Text. shuntref07.text. Small of package shuntref01, of any number that isn't below 0; shuntref07.decimal. -/
import Derived.Test.YtembglnonhlnkaaGreatDoorGak
import Derived.Test.YtembglnonhlnkaaGreatDoorGaw
import Derived.Test.YtembglnonhlnkaaGreatDoorGba
import Derived.Test.YtembglnonhlnkaaGreatDoorGbc
import Derived.Test.YtembglnonhlnkaaGreatDoorGai
namespace Go.Proofs.YtembglnonhlnkaaGreatDoor
open Go.RowKit
namespace Q
theorem digits_int (s:Bool) (ao:Option Addr) (k cap:Nat) (v:Int) (w:World) (h:D.NIs w s (.slice ao k cap) v) (h1:-999999999≤v) (h2:v≤999999999) (hk:k≤200) :
  Calls Tryz.prog 89 #[.agg #[.bool s,.slice ao k cap]] w fun e w' => Kept w w'∧∃ t:ByteArray,(t.data.toList = Lib.itoa v∧t.size≤10)∧e = .returned (.string t):=by
 obtain ⟨m,l,hr,hi,hv,hm⟩:∃ m l,M.Right m l∧M.int m l = v∧M.val l = v.natAbs∧m = decide (v < 0):=by
  by_cases h0:v = 0
  ·
   subst h0
   exact ⟨false,[],⟨fun x hx => by simp at hx,.inl rfl,by decide,fun _ => rfl⟩,rfl,rfl,rfl⟩
  ·
   refine ⟨decide (v < 0),[v.natAbs],⟨fun x hx => by simp at hx; omega,.inr (by simpa using h0),by simp,fun h => by cases h⟩,?_,by simp [M.val],rfl⟩
   unfold M.int
   by_cases hn:v < 0 <;> simp [hn,M.val] <;> omega
 rw [← hi] at h
 refine (D.Digits_any s ao k cap m l w h hr hk).mono ?_
 rintro e w' ⟨hkk,S,hp,hd,rfl⟩
 have e1:(⟨(tx m S).toArray⟩:ByteArray).data.toList = Lib.itoa v:=by
  rw [itoa_sg,← hv,← hd,← plain_dec hp,← hm]
  show tx m S = _
  unfold tx sg
  cases m <;> rfl
 exact ⟨hkk,_,⟨e1,by rw [size_of e1]; exact itoa_len v h1 h2⟩,rfl⟩
theorem idxD (k:Nat) (h:k < 9):∃ nm:List UInt8,nm.length≤3∧(#[.string ⟨#[102]⟩,.string ⟨#[112]⟩,.string ⟨#[110]⟩,.string ⟨#[117]⟩,.string ⟨#[109]⟩,.string ⟨#[]⟩,.string ⟨#[107]⟩,.string ⟨#[109,101,103]⟩,.string ⟨#[103]⟩]:Array Value)[k]? = some (.string ⟨nm.toArray⟩)∧∀ x:Int,3 * (k:Int) - 15≤x→x < 3 * (k:Int) - 12→below x = some (nm,3 * (k:Int) - 15):=by
 match k,h with
 | 0,_ => exact ⟨[102],by decide,rfl,fun x h1 h2 => by
   rcases (show x = -15 ∨ x = -14 ∨ x = -13 by omega) with rfl | rfl | rfl <;> rfl⟩
 | 1,_ => exact ⟨[112],by decide,rfl,fun x h1 h2 => by
   rcases (show x = -12 ∨ x = -11 ∨ x = -10 by omega) with rfl | rfl | rfl <;> rfl⟩
 | 2,_ => exact ⟨[110],by decide,rfl,fun x h1 h2 => by
   rcases (show x = -9 ∨ x = -8 ∨ x = -7 by omega) with rfl | rfl | rfl <;> rfl⟩
 | 3,_ => exact ⟨[117],by decide,rfl,fun x h1 h2 => by
   rcases (show x = -6 ∨ x = -5 ∨ x = -4 by omega) with rfl | rfl | rfl <;> rfl⟩
 | 4,_ => exact ⟨[109],by decide,rfl,fun x h1 h2 => by
   rcases (show x = -3 ∨ x = -2 ∨ x = -1 by omega) with rfl | rfl | rfl <;> rfl⟩
 | 5,_ => exact ⟨[],by decide,rfl,fun x h1 h2 => by
   rcases (show x = 0 ∨ x = 1 ∨ x = 2 by omega) with rfl | rfl | rfl <;> rfl⟩
 | 6,_ => exact ⟨[107],by decide,rfl,fun x h1 h2 => by
   rcases (show x = 3 ∨ x = 4 ∨ x = 5 by omega) with rfl | rfl | rfl <;> rfl⟩
 | 7,_ => exact ⟨[109,101,103],by decide,rfl,fun x h1 h2 => by
   rcases (show x = 6 ∨ x = 7 ∨ x = 8 by omega) with rfl | rfl | rfl <;> rfl⟩
 | 8,_ => exact ⟨[103],by decide,rfl,fun x h1 h2 => by
   rcases (show x = 9 ∨ x = 10 ∨ x = 11 by omega) with rfl | rfl | rfl <;> rfl⟩
theorem text_nil:textOf 0 0 = [48]:=by
 have e:below 0 = some ([],0):=rfl
 unfold textOf
 rw [e,itoa_sg]
 show sg false ++ Lib.decDigits 0 ++ _ ++ _ = _
 rw [Lib.decDigits,dif_pos (by decide)]
 rfl
theorem text_low {m x:Int} (h:x < -15) (h9:x≤9):textOf m x = Lib.itoa m ++ [101,45] ++ Lib.itoa (-x):=by
 rcases below_cases h9 with ⟨_,hn⟩ | ⟨nm,y,hn,hm,h2,h3⟩
 ·
  unfold textOf
  rw [hn,itoa_sg x,itoa_sg (-x),Int.natAbs_neg,decide_eq_true (show x < 0 by omega),decide_eq_false (show ¬ -x < 0 by omega)]
  simp [sg]
 ·
  exfalso
  have hc:∀ p ∈ names,-15≤p.2:=by decide
  have:=hc _ hm
  omega
set_option maxRecDepth 100000 in
set_option maxHeartbeats 16000000 in
theorem rtext_any (m x:Int) (w:World):Calls Tryz.prog 84 #[.agg #[.int .i64 m,.int .i64 x]] w fun e w' => Kept w w'∧TextIs e m x:=by
 go_enter Tryz.func84,Tryz.ntmps84
 go_upto_region 1 with fail
 have hK:=(Kept.refl w).alloc (.cells #[.int .i64 m,.int .i64 x] 26)
 have hR:=Row2.alloc 26 w (.int .i64 m) (.int .i64 x)
 generalize w.alloc (.cells #[.int .i64 m,.int .i64 x] 26) = W at hK hR ⊢
 obtain ⟨p1,hp1⟩:∃ p,p = w.heap.size:=⟨_,rfl⟩
 rw [← hp1] at hR ⊢
 have HK:=hid' hK
 have HR:=hid' hR
 obtain ⟨q0,q1,q2,q3⟩:=hR.all
 clear hp1 hK hR
 go_wp2_with fail
 refine (RValid_any m x _).mono ?_
 rintro e w1 ⟨hk1,rfl⟩
 have HK1:=hid' hk1
 clear hk1 q0 q1 q2 q3
 by_cases ho:okN m x = true
 ·
  have hb:=okN_bd ho
  rw [ho]
  have HO:=hid' ho
  obtain ⟨q0,q1,q2,q3⟩:=(HR.out.kept HK1.out).all
  by_cases hm0:m = 0
  ·
   have hx0:x = 0:=by
    rcases okN_iff.1 ho with ⟨_,h⟩ | ⟨h,_⟩
    ·
     exact h
    ·
     exact absurd hm0 h
   subst hm0 hx0
   clear ho
   go_wp2_with fail
   go_ret2
   exact ⟨HK.out.trans HK1.out,.inr ⟨HO.out,⟨#[48]⟩,text_nil.symm,rfl⟩⟩
  ·
   have hmz:(m == 0) = false:=by simpa using hm0
   clear ho
   go_wp2_with fail
   refine (D.wide_any m _ (by omega) (by omega)).mono ?_
   rintro e w2 ⟨hk2,s2,a2,k2,c2,rfl,n2,l2⟩
   have HK2:=hid' (HK1.out.trans hk2)
   have H2:=hid' (And.intro n2 l2)
   clear hk2 n2 l2 q0 q1 q2 q3
   go_wp2_with fail
   refine (digits_int s2 a2 k2 c2 m _ H2.out.1 hb.1 hb.2.1 (by have:=H2.out.2; omega)).mono ?_
   rintro e w3 ⟨hk3,d,hd,rfl⟩
   have HK3:=hid' (HK2.out.trans hk3)
   have Hd:=hid' hd.1
   have hds:=hd.2
   clear hk3 hd
   obtain ⟨q0,q1,q2,q3⟩:=(HR.out.kept HK3.out).all
   by_cases hx:x < -15
   ·
    have hwn:IntKind.i64.wrap (-x) = -x:=wrap_i64' (by omega) (by omega)
    have hA:¬ 9223372036854775807 < d.size + 2:=by omega
    have hA':¬ 9223372036854775807 < d.size + (⟨#[101,45]⟩:ByteArray).size:=by show ¬ _ < _ + 2; omega
    go_wp2_with fail
    refine (D.small_num (-x) _ (by omega) (by omega)).mono ?_
    rintro e w4 ⟨hk4,a4,k4,c4,rfl,n4,l4⟩
    have K4:=hid' (HK3.out.trans hk4)
    have H4:=hid' (And.intro n4 l4)
    clear n4 l4 hk4
    go_wp2_with fail
    refine (digits_int false a4 k4 c4 (-x) _ H4.out.1 (by omega) (by omega) (by have:=H4.out.2; omega)).mono ?_
    rintro e w5 ⟨hk5,z,hz,rfl⟩
    have HK5:=hid' (HK.out.trans (K4.out.trans hk5))
    have Hz:=hid' hz.1
    have hzs:=hz.2
    have hB:¬ 9223372036854775807 < d.size + 2 + z.size:=by omega
    have hB':¬ 9223372036854775807 < (d ++ (⟨#[101,45]⟩:ByteArray)).size + z.size:=by rw [ByteArray.size_append]; exact hB
    clear hz hk5 q0 q1 q2 q3
    go_wp2_with fail
    go_ret2
    exact ⟨HK5.out,.inr ⟨HO.out,d ++ ⟨#[101,45]⟩ ++ z,by rw [text_low hx hb.2.2.2]; simp [ByteArray.data_append,Hd.out,Hz.out],rfl⟩⟩
   ·
    go_upto_region 9 with fail
    have hK4:=HK3.out.alloc (.cells #[.string ⟨#[102]⟩,.string ⟨#[112]⟩,.string ⟨#[110]⟩,.string ⟨#[117]⟩,.string ⟨#[109]⟩,.string ⟨#[]⟩,.string ⟨#[107]⟩,.string ⟨#[109,101,103]⟩,.string ⟨#[103]⟩] 9)
    have hC:∀ k,(w3.alloc (.cells #[.string ⟨#[102]⟩,.string ⟨#[112]⟩,.string ⟨#[110]⟩,.string ⟨#[117]⟩,.string ⟨#[109]⟩,.string ⟨#[]⟩,.string ⟨#[107]⟩,.string ⟨#[109,101,103]⟩,.string ⟨#[103]⟩] 9)).cell? ⟨w3.heap.size,k,none⟩ = (#[.string ⟨#[102]⟩,.string ⟨#[112]⟩,.string ⟨#[110]⟩,.string ⟨#[117]⟩,.string ⟨#[109]⟩,.string ⟨#[]⟩,.string ⟨#[107]⟩,.string ⟨#[109,101,103]⟩,.string ⟨#[103]⟩]:Array Value)[k]?:=fun k => World.cell?_alloc_at _ _ _ _ rfl
    generalize w3.alloc (.cells #[.string ⟨#[102]⟩,.string ⟨#[112]⟩,.string ⟨#[110]⟩,.string ⟨#[117]⟩,.string ⟨#[109]⟩,.string ⟨#[]⟩,.string ⟨#[107]⟩,.string ⟨#[109,101,103]⟩,.string ⟨#[103]⟩] 9) = W4 at hK4 hC ⊢
    obtain ⟨p4,hp4⟩:∃ p,p = w3.heap.size:=⟨_,rfl⟩
    rw [← hp4] at hC ⊢
    have HK4:=hid' hK4
    have HC:=hid' hC
    clear hp4 hK4 hC q0 q1 q2 q3
    obtain ⟨q0,q1,q2,q3⟩:=(HR.out.kept HK4.out).all
    go_wp2_with fail
    go_loopw [4,6] (fun vs vi wr => ∃ i:Nat,i < 9∧vs = .string d∧vi = .int .i64 (i:Int)∧wr = W4∧x < 3 * (i:Int) - 12) (fun _ vi _ => (intOf vi).toNat)
    case atStart => exact ⟨8,by omega,rfl,rfl,rfl,by omega⟩
    case round =>
     obtain ⟨i,hi,rfl,rfl,hwr,hxi⟩:=hrel
     subst hwr
     have hi0:(0:Int)≤(i:Int):=by omega
     have hw1:IntKind.i64.wrap (3 * (i:Int)) = 3 * (i:Int):=wrap_i64' (by omega) (by omega)
     have hw2:IntKind.i64.wrap (3 * (i:Int) - 15) = 3 * (i:Int) - 15:=wrap_i64' (by omega) (by omega)
     by_cases hle:3 * (i:Int) - 15≤x
     ·
      obtain ⟨nm,hnl,hcv,hbe⟩:=idxD i hi
      have hc:=(HC.out i).trans hcv
      have HB:=hid' (hbe x hle hxi)
      clear hcv hbe
      obtain ⟨nb,hnb⟩:∃ d:ByteArray,d = ⟨nm.toArray⟩:=⟨_,rfl⟩
      rw [← hnb] at hc
      have Hn:Hid (nb.data.toList = nm):=by show _ = _; rw [hnb]
      have hns:nb.size≤3:=by rw [size_of Hn.out]; exact hnl
      clear hnb
      go_wp2_with fail
      go_loopw [4,7] (fun vs vk wq => ∃ (c:Nat) (t:ByteArray),vs = .string t∧vk = .int .i64 (3 * (i:Int) - 15 + (c:Int))∧3 * (i:Int) - 15 + (c:Int)≤x∧wq = wr∧t.size≤20∧Hid (t.data.toList = Lib.itoa m ++ List.replicate c 48)) (fun _ vk _ => (x - intOf vk).toNat)
      case atStart => exact ⟨0,d,rfl,by simp,by omega,rfl,by omega,by show _ = _; rw [Hd.out]; simp⟩
      case round =>
       obtain ⟨c,t,rfl,rfl,hcx,hwq,hts,Ht⟩:=hrel
       subst hwq
       have hc2:c≤2:=by omega
       have htl:t.size≤12:=by rw [size_of Ht.out,List.length_append,List.length_replicate]; have:=itoa_len m hb.1 hb.2.1; omega
       by_cases hlt:3 * (i:Int) - 15 + (c:Int) < x
       ·
        have hw3:IntKind.i64.wrap (3 * (i:Int) - 15 + (c:Int) + 1) = 3 * (i:Int) - 15 + (c:Int) + 1:=wrap_i64' (by omega) (by omega)
        have hA:¬ 9223372036854775807 < t.size + 1:=by omega
        have hA':¬ 9223372036854775807 < t.size + (⟨#[48]⟩:ByteArray).size:=by show ¬ _ < _ + 1; omega
        go_wp2_with fail
        go_roundw
        case rel => exact ⟨c + 1,t ++ ⟨#[48]⟩,rfl,by congr 1; omega,by omega,trivial,by rw [ByteArray.size_append]; show _ + 1≤_; omega,by show _ = _; rw [ByteArray.data_append,Array.toList_append,Ht.out,List.append_assoc,← List.replicate_succ']⟩
        case measure => show (x - (3 * (i:Int) - 15 + (c:Int) + 1)).toNat < (x - (3 * (i:Int) - 15 + (c:Int))).toNat; omega
       ·
        have hA:¬ 9223372036854775807 < t.size + nb.size:=by omega
        go_wp2_with fail
        go_ret2
        exact ⟨HK.out.trans HK4.out,.inr ⟨HO.out,t ++ nb,by unfold textOf; rw [HB.out]; simp [ByteArray.data_append,Ht.out,Hn.out]; omega,rfl⟩⟩
     ·
      have hi1:1≤i:=by omega
      have hwi:IntKind.i64.wrap ((i:Int) - 1) = (i:Int) - 1:=wrap_i64' (by omega) (by omega)
      go_wp2_with fail
      go_roundw
      case rel => exact ⟨i - 1,by omega,rfl,by congr 1; omega,trivial,by omega⟩
      case measure => show ((i:Int) - 1).toNat < (i:Int).toNat; omega
 ·
  have ho:okN m x = false:=by simpa using ho
  rw [ho]
  have HO:=hid' ho
  clear ho
  go_wp2
  go_ret2
  exact ⟨HK.out.trans HK1.out,.inl ⟨HO.out,rfl⟩⟩
end Q
end Go.Proofs.YtembglnonhlnkaaGreatDoor

namespace Go.Proofs.YtembglnonhlnkaaGreatDoor
open Go.RowKit
namespace V
open Q (hid' parseOf Lett ErrV Tab okN textOf)
open X (bs OwnS RS strs bs_list bs_size)
set_option maxRecDepth 100000 in
set_option maxHeartbeats 4000000 in
theorem rtx7_any (m x:Int) (w:World) :
  Calls Tryz.prog 45 #[.agg #[.int .i64 m,.int .i64 x]] w fun e w' => Kept w w'∧e = .returned (.string (bs (tx (m,x)))):=by
 have hc:=fun V => Q.rtext_any m x V
 have HT:=hid' (show ∀ e,Q.TextIs e m x→∃ z,e = .returned (.tuple #[.string (bs (tx (m,x))),.int .i64 z]) by
  rintro e (⟨h1,rfl⟩ | ⟨h1,t,ht,rfl⟩)
  ·
   exact ⟨30,by unfold tx; rw [if_neg (by rw [h1]; decide)]; rfl⟩
  ·
   exact ⟨0,by unfold tx; rw [if_pos h1,← ht]; rfl⟩)
 generalize bs (tx (m,x)) = r at HT ⊢
 go_enter Tryz.func45,Tryz.ntmps45
 go_wp2_with fail
 refine (hc _).mono ?_
 rintro e w1 ⟨hk,he⟩
 obtain ⟨z,rfl⟩:=HT.out e he
 have HK:=hid' hk
 clear hk hc he
 go_wp2_with fail
 go_ret
 exact ⟨by first | exact HK.out | exact ((Kept.refl _).alloc _).trans HK.out,rfl⟩
end V
end Go.Proofs.YtembglnonhlnkaaGreatDoor

namespace Go.Proofs.YtembglnonhlnkaaGreatDoor
open Go.RowKit
namespace D
set_option maxRecDepth 100000 in
set_option maxHeartbeats 4000000 in
theorem small_nat (U:Nat) (w:World) (hlo:True) (hU:U≤9223372036854775807) :
  Calls Tryz.prog 68 #[.int .i64 (U:Int)] w fun e w' => Kept w w'∧∃ ao k cap,e = .returned (.agg #[.bool false,.slice ao k cap])∧NIs w' false (.slice ao k cap) (U:Int)∧k≤4:=by
 obtain ⟨i0,hi,hz0,hz1,hz2⟩:=info_parts infoI
 have hng:¬ (U:Int) < 0:=by omega
 have hU2:U < 18446744073709551616:=by omega
 have HLO:Hid (True):=hlo
 go_enter Tryz.func68,Tryz.ntmps68
 go_wp2
 go_loopw [0] (fun vi wr => ∃ (u:Nat) (o:List Nat) (ao':Option Addr) (cap:Nat),vi = .int .i64 (u:Int)∧u≤U∧wr.cell? ⟨w.heap.size + 1,0,none⟩ = some (.bool false)∧wr.cell? ⟨w.heap.size + 1,1,none⟩ = some (.slice ao' o.length cap)∧wr.frozen? ⟨w.heap.size + 1,1,none⟩ = false ∧
   Hid (D.Bd o∧D.val o + 65536 ^ o.length * u = U∧(u = 0→D.Tr o))∧Hid (wr.ownsRow (w.heap.size + 1 + 1) 3 1 (.slice ao' o.length cap) o.length (us o)) ∧
   Hid (Kept (w.alloc (Obj.cells #[.bool false,.slice none 0 0] 87)) wr∧w.heap.size + 1 + 1≤wr.heap.size)) (fun vi _ => (intOf vi).toNat)
 case atStart => exact ⟨U,[],none,0,rfl,Nat.le_refl _,World.cell?_alloc_at _ _ _ _ (by simp),World.cell?_alloc_at _ _ _ _ (by simp),World.frozen?_alloc_at _ _ _ _ (by simp),⟨D.Bd_nil,by simp [D.val],fun _ => .inl rfl⟩,World.ownsRow_nil _ _ _ _,(Kept.refl _).alloc _,by simp⟩
 case round =>
  obtain ⟨u,o,ao',cap,rfl,huU,hc0,hc1,hfz,ho,hown,hkept⟩:=hrel
  have hwb:∀ x,w.heap.size + 1 + 1≤(wr.alloc x).heap.size:=fun x => by have:=hkept.out.2; simp; omega
  by_cases h0:0 < u
  ·
   have hol:=wide_len h0 hU2 ho.out.2.1
   have hml:o.length + 1≤maxLen:=by unfold maxLen; omega
   have h0':(0:Int) < (u:Int):=by omega
   go_wp2_with (at_builtin; refine wpList_append_own _ rfl _ _ 28 rfl (w.heap.size + 1 + 1) 3 i0 (.int .i64 0) 1 8 Tryz.underlying28 hi hz0 hz1 hz2 rfl (by decide) _ _ _ rfl (hown.out.alloc _) ⟨wr.heap.size,0,none⟩ 1 1 [.int .i64 ((u:Int).tmod 65536)] rfl rfl (cell_new wr _ _) (fun u hu => by simp at hu; subst hu; rfl) (by omega) (by omega) (by exact hwb _) ?_)
   intro v' w3 hown' hgrow _
   have hB3:Below (w.heap.size + 1 + 1) wr w3:=Below.grown ((Below.refl _ wr).alloc hkept.out.2 _) hgrow (by exact hwb _) (fun j hj => (hown.out.lt j hj).1)
   have hown3:w3.ownsRow (w.heap.size + 1 + 1) 3 1 v' (o.length + 1) (us (o ++ [u % 65536])):=by
    rw [us_snoc,show ((u % 65536:Nat):Int) = (u:Int).tmod 65536 by rw [Int.tmod_eq_emod_of_nonneg (by omega)]; omega]; exact hown'
   obtain ⟨ao3,cap3,rfl⟩:∃ ao3 cap3,v' = .slice ao3 (o.length + 1) cap3:=own_shape hown3
   have H3:Hid (w3.ownsRow (w.heap.size + 1 + 1) 3 1 (.slice ao3 (o.length + 1) cap3) (o.length + 1) (us (o ++ [u % 65536]))∧Below (w.heap.size + 1 + 1) wr w3):=⟨hown3,hB3⟩
   have gc0:=(Below.cell hB3 (p:=⟨w.heap.size + 1,0,none⟩) (by simp)).trans hc0
   have gc1:=(Below.cell hB3 (p:=⟨w.heap.size + 1,1,none⟩) (by simp)).trans hc1
   have gfz:=(Below.frozen hB3 (p:=⟨w.heap.size + 1,1,none⟩) (by simp)).trans hfz
   clear hown' hgrow hwb hown3 hB3 hc0 hc1 hfz
   go_wp2
   go_roundw
   case rel =>
    refine ⟨u / 65536,o ++ [u % 65536],ao3,cap3,by go_num,by omega,?_,?_,?_,⟨ho.out.1.snoc (by exact Nat.mod_lt _ (by decide)),by exact wide_step ho.out.2.1,fun e => by exact wide_tr h0 e⟩,?_,?_,?_⟩
    ·
     rw [World.cell?_setCell_other _ _ _ _ (by simp)]; exact gc0
    ·
     rw [List.length_append]; exact World.cell?_setCell_same _ _ _ gc1
    ·
     rw [World.frozen?_setCell]; exact gfz
    ·
     rw [List.length_append]
     exact H3.out.1.kept (grown_set (World.grownBy.refl _ _) _ _) (own_ne H3.out.1 (b:=w.heap.size + 1) (by omega))
    ·
     exact (Kept.mono3 hkept.out.1 H3.out.2 (by simp)).setCell (by simp) _
    ·
     rw [World.size_setCell]; exact Nat.le_trans hkept.out.2 H3.out.2.size
   case measure => simp [intOf]; omega
  ·
   have hu0:u = 0:=by omega
   subst hu0
   have HT:Hid (D.Tr o∧D.val o = U):=⟨ho.out.2.2 rfl,by have:=ho.out.2.1; simpa using this⟩
   have hol:o.length≤4:=D.len_of_lt HT.out.1 (by rw [HT.out.2,show (65536:Nat) ^ 4 = 18446744073709551616 from rfl]; omega)
   have hk:=hkept.out.1
   obtain ⟨hR0,hR1⟩:=box_kept hk
   have hfr:=hk.frozens
   have HN:Hid (New (w.heap.size + 1 + 1) wr (.slice ao' o.length cap) o):=New.of_owns hown.out ho.out.1
   have HK:Hid (Kept w wr):=((Kept.refl w).alloc _).trans hk
   clear hwb hk
   go_wp2
   exact bodyPost_ret (v:=.agg #[.bool false,.slice ao' o.length cap]) (by simp [results,Tryz.results68,go_sem,hR0,hR1]) rfl ⟨(HK.out.setCell (by simp) _).setCell (by simp) _,ao',_,cap,rfl,⟨o,HN.out.sl.box hR0 hR1 _ _,⟨ho.out.1,HT.out.1,by first | exact fun _ => rfl | exact fun e => by have h5:=HT.out.2; rw [e] at h5; simp only [D.val] at h5; have h6:=HLO.out; omega⟩,by unfold int; rw [HT.out.2]; simp⟩,hol⟩
end D
namespace V
open Q (hid')
open X (bs)
theorem digits_nat (ao:Option Addr) (k cap:Nat) (v:Int) (w:World) (h:D.NIs w false (.slice ao k cap) v) (h1:0≤v) (h2:v≤4000000000) (hk:k≤200) :
  Calls Tryz.prog 89 #[.agg #[.bool false,.slice ao k cap]] w fun e w' => Kept w w'∧e = .returned (.string (bs (Lib.itoa v))):=by
 obtain ⟨m,l,hr,hi,hv,hm⟩:∃ m l,M.Right m l∧M.int m l = v∧M.val l = v.natAbs∧m = decide (v < 0):=by
  by_cases h0:v = 0
  ·
   subst h0
   exact ⟨false,[],⟨fun x hx => by simp at hx,.inl rfl,by decide,fun _ => rfl⟩,rfl,rfl,rfl⟩
  ·
   refine ⟨decide (v < 0),[v.natAbs],⟨fun x hx => by simp at hx; omega,.inr (by simpa using h0),by simp,fun h => by cases h⟩,?_,by simp [M.val],rfl⟩
   unfold M.int
   by_cases hn:v < 0 <;> simp [hn,M.val] <;> omega
 rw [← hi] at h
 refine (D.Digits_any false ao k cap m l w h hr hk).mono ?_
 rintro e w' ⟨hkk,S,hp,hd,rfl⟩
 refine ⟨hkk,?_⟩
 have e1:Go.Proofs.YtembglnonhlnkaaGreatDoor.tx m S = Lib.itoa v:=by
  rw [Q.itoa_sg,← hv,← hd,← plain_dec hp,← hm]
  unfold Go.Proofs.YtembglnonhlnkaaGreatDoor.tx Q.sg
  cases m <;> rfl
 rw [e1]
 rfl
set_option maxHeartbeats 4000000 in
theorem decimal7_any (v:Int) (w:World) (h1:0≤v) (h2:v≤1000000000) :
  Calls Tryz.prog 49 #[.int .i64 v] w fun e w' => Kept w w'∧e = .returned (.string (bs (Lib.itoa v))):=by
 obtain ⟨U,rfl⟩:=Int.eq_ofNat_of_zero_le h1
 have HB:=hid' (And.intro h1 h2)
 clear h1 h2
 generalize hr:bs (Lib.itoa (U:Int)) = r
 have HR:=hid' hr
 clear hr
 go_enter Tryz.func49,Tryz.ntmps49
 go_wp2_with fail
 refine (D.small_nat U _ trivial (by have:=HB.out.2; omega)).mono ?_
 rintro e w1 ⟨hk,ao,k,cap,rfl,hN,hl⟩
 have hd:=digits_nat ao k cap (U:Int) w1 hN HB.out.1 (by have:=HB.out.2; omega) (by omega)
 rw [HR.out] at hd
 have HK:=hid' hk
 clear hk hN
 go_wp2_with fail
 refine hd.mono ?_
 rintro e w2 ⟨hk,rfl⟩
 have HK:=hid' (HK.out.trans hk)
 clear hk hd
 go_wp2_with fail
 go_ret
 exact ⟨HK.out,rfl⟩
end V
end Go.Proofs.YtembglnonhlnkaaGreatDoor

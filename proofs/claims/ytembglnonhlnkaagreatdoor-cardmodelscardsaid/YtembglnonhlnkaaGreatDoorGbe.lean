/- shuntref03.Text. shuntref07.text, shuntref07.WriteModel. -/
import Derived.Test.YtembglnonhlnkaaGreatDoorGak
import Derived.Test.YtembglnonhlnkaaGreatDoorGav
import Derived.Test.YtembglnonhlnkaaGreatDoorGaz
import Derived.Test.YtembglnonhlnkaaGreatDoorGbd
import Derived.Test.YtembglnonhlnkaaGreatDoorGba
namespace Go.Proofs.YtembglnonhlnkaaGreatDoor
open Go.RowKit
namespace Q
theorem digits_int (s:Bool) (ao:Option Addr) (k cap:Nat) (v:Int) (w:World) (h:D.NIs w s (.slice ao k cap) v) (h1:-999999999≤v) (h2:v≤999999999) (hk:k≤200) :
  Calls Tryz.prog 89 #[.agg #[.bool s,.slice ao k cap]] w fun e w' => Kept w w'∧∃ t:ByteArray,(t.data.toList = Lib.itoa v∧t.size≤10)∧e = .returned (.string t):=by
 obtain ⟨m,l,hr,hi,hv,hm⟩:∃ m l,M.Right m l∧M.int m l = v∧M.val l = v.natAbs∧m = decide (v < 0):=by
  by_cases h0:v = 0
  ·
   subst h0
   exact ⟨false,[],⟨fun x hx => by simp at hx,.inl rfl,by decide,fun _ => rfl⟩,rfl,rfl,rfl⟩
  ·
   refine ⟨decide (v < 0),[v.natAbs],⟨fun x hx => by simp at hx; omega,.inr (by simpa using h0),by simp,fun h => by cases h⟩,?_,by simp [M.val],rfl⟩
   unfold M.int
   by_cases hn:v < 0 <;> simp [hn,M.val] <;> omega
 rw [← hi] at h
 refine (D.Digits_any s ao k cap m l w h hr hk).mono ?_
 rintro e w' ⟨hkk,S,hp,hd,rfl⟩
 have e1:(⟨(tx m S).toArray⟩:ByteArray).data.toList = Lib.itoa v:=by
  rw [itoa_sg,← hv,← hd,← plain_dec hp,← hm]
  show tx m S = _
  unfold tx sg
  cases m <;> rfl
 exact ⟨hkk,_,⟨e1,by rw [size_of e1]; exact itoa_len v h1 h2⟩,rfl⟩
theorem idxD (k:Nat) (h:k < 9):∃ nm:List UInt8,nm.length≤3∧(#[.string ⟨#[102]⟩,.string ⟨#[112]⟩,.string ⟨#[110]⟩,.string ⟨#[117]⟩,.string ⟨#[109]⟩,.string ⟨#[]⟩,.string ⟨#[107]⟩,.string ⟨#[109,101,103]⟩,.string ⟨#[103]⟩]:Array Value)[k]? = some (.string ⟨nm.toArray⟩)∧∀ x:Int,3 * (k:Int) - 15≤x→x < 3 * (k:Int) - 12→below x = some (nm,3 * (k:Int) - 15):=by
 match k,h with
 | 0,_ => exact ⟨[102],by decide,rfl,fun x h1 h2 => by
   rcases (show x = -15 ∨ x = -14 ∨ x = -13 by omega) with rfl | rfl | rfl <;> rfl⟩
 | 1,_ => exact ⟨[112],by decide,rfl,fun x h1 h2 => by
   rcases (show x = -12 ∨ x = -11 ∨ x = -10 by omega) with rfl | rfl | rfl <;> rfl⟩
 | 2,_ => exact ⟨[110],by decide,rfl,fun x h1 h2 => by
   rcases (show x = -9 ∨ x = -8 ∨ x = -7 by omega) with rfl | rfl | rfl <;> rfl⟩
 | 3,_ => exact ⟨[117],by decide,rfl,fun x h1 h2 => by
   rcases (show x = -6 ∨ x = -5 ∨ x = -4 by omega) with rfl | rfl | rfl <;> rfl⟩
 | 4,_ => exact ⟨[109],by decide,rfl,fun x h1 h2 => by
   rcases (show x = -3 ∨ x = -2 ∨ x = -1 by omega) with rfl | rfl | rfl <;> rfl⟩
 | 5,_ => exact ⟨[],by decide,rfl,fun x h1 h2 => by
   rcases (show x = 0 ∨ x = 1 ∨ x = 2 by omega) with rfl | rfl | rfl <;> rfl⟩
 | 6,_ => exact ⟨[107],by decide,rfl,fun x h1 h2 => by
   rcases (show x = 3 ∨ x = 4 ∨ x = 5 by omega) with rfl | rfl | rfl <;> rfl⟩
 | 7,_ => exact ⟨[109,101,103],by decide,rfl,fun x h1 h2 => by
   rcases (show x = 6 ∨ x = 7 ∨ x = 8 by omega) with rfl | rfl | rfl <;> rfl⟩
 | 8,_ => exact ⟨[103],by decide,rfl,fun x h1 h2 => by
   rcases (show x = 9 ∨ x = 10 ∨ x = 11 by omega) with rfl | rfl | rfl <;> rfl⟩
theorem text_nil:textOf 0 0 = [48]:=by
 have e:below 0 = some ([],0):=rfl
 unfold textOf
 rw [e,itoa_sg]
 show sg false ++ Lib.decDigits 0 ++ _ ++ _ = _
 rw [Lib.decDigits,dif_pos (by decide)]
 rfl
theorem text_low {m x:Int} (h:x < -15) (h9:x≤9):textOf m x = Lib.itoa m ++ [101,45] ++ Lib.itoa (-x):=by
 rcases below_cases h9 with ⟨_,hn⟩ | ⟨nm,y,hn,hm,h2,h3⟩
 ·
  unfold textOf
  rw [hn,itoa_sg x,itoa_sg (-x),Int.natAbs_neg,decide_eq_true (show x < 0 by omega),decide_eq_false (show ¬ -x < 0 by omega)]
  simp [sg]
 ·
  exfalso
  have hc:∀ p ∈ names,-15≤p.2:=by decide
  have:=hc _ hm
  omega
set_option maxRecDepth 100000 in
set_option maxHeartbeats 16000000 in
theorem rtext_any (m x:Int) (w:World):Calls Tryz.prog 84 #[.agg #[.int .i64 m,.int .i64 x]] w fun e w' => Kept w w'∧TextIs e m x:=by
 go_enter Tryz.func84,Tryz.ntmps84
 go_upto_region 1 with fail
 have hK:=(Kept.refl w).alloc (.cells #[.int .i64 m,.int .i64 x] 26)
 have hR:=Row2.alloc 26 w (.int .i64 m) (.int .i64 x)
 generalize w.alloc (.cells #[.int .i64 m,.int .i64 x] 26) = W at hK hR ⊢
 obtain ⟨p1,hp1⟩:∃ p,p = w.heap.size:=⟨_,rfl⟩
 rw [← hp1] at hR ⊢
 have HK:=hid' hK
 have HR:=hid' hR
 obtain ⟨q0,q1,q2,q3⟩:=hR.all
 clear hp1 hK hR
 go_wp2_with fail
 refine (RValid_any m x _).mono ?_
 rintro e w1 ⟨hk1,rfl⟩
 have HK1:=hid' hk1
 clear hk1 q0 q1 q2 q3
 by_cases ho:okN m x = true
 ·
  have hb:=okN_bd ho
  rw [ho]
  have HO:=hid' ho
  obtain ⟨q0,q1,q2,q3⟩:=(HR.out.kept HK1.out).all
  by_cases hm0:m = 0
  ·
   have hx0:x = 0:=by
    rcases okN_iff.1 ho with ⟨_,h⟩ | ⟨h,_⟩
    ·
     exact h
    ·
     exact absurd hm0 h
   subst hm0 hx0
   clear ho
   go_wp2_with fail
   go_ret2
   exact ⟨HK.out.trans HK1.out,.inr ⟨HO.out,⟨#[48]⟩,text_nil.symm,rfl⟩⟩
  ·
   have hmz:(m == 0) = false:=by simpa using hm0
   clear ho
   go_wp2_with fail
   refine (D.wide_any m _ (by omega) (by omega)).mono ?_
   rintro e w2 ⟨hk2,s2,a2,k2,c2,rfl,n2,l2⟩
   have HK2:=hid' (HK1.out.trans hk2)
   have H2:=hid' (And.intro n2 l2)
   clear hk2 n2 l2 q0 q1 q2 q3
   go_wp2_with fail
   refine (digits_int s2 a2 k2 c2 m _ H2.out.1 hb.1 hb.2.1 (by have:=H2.out.2; omega)).mono ?_
   rintro e w3 ⟨hk3,d,hd,rfl⟩
   have HK3:=hid' (HK2.out.trans hk3)
   have Hd:=hid' hd.1
   have hds:=hd.2
   clear hk3 hd
   obtain ⟨q0,q1,q2,q3⟩:=(HR.out.kept HK3.out).all
   by_cases hx:x < -15
   ·
    have hwn:IntKind.i64.wrap (-x) = -x:=wrap_i64' (by omega) (by omega)
    have hA:¬ 9223372036854775807 < d.size + 2:=by omega
    have hA':¬ 9223372036854775807 < d.size + (⟨#[101,45]⟩:ByteArray).size:=by show ¬ _ < _ + 2; omega
    go_wp2_with fail
    refine (D.small_num (-x) _ (by omega) (by omega)).mono ?_
    rintro e w4 ⟨hk4,a4,k4,c4,rfl,n4,l4⟩
    have K4:=hid' (HK3.out.trans hk4)
    have H4:=hid' (And.intro n4 l4)
    clear n4 l4 hk4
    go_wp2_with fail
    refine (digits_int false a4 k4 c4 (-x) _ H4.out.1 (by omega) (by omega) (by have:=H4.out.2; omega)).mono ?_
    rintro e w5 ⟨hk5,z,hz,rfl⟩
    have HK5:=hid' (HK.out.trans (K4.out.trans hk5))
    have Hz:=hid' hz.1
    have hzs:=hz.2
    have hB:¬ 9223372036854775807 < d.size + 2 + z.size:=by omega
    have hB':¬ 9223372036854775807 < (d ++ (⟨#[101,45]⟩:ByteArray)).size + z.size:=by rw [ByteArray.size_append]; exact hB
    clear hz hk5 q0 q1 q2 q3
    go_wp2_with fail
    go_ret2
    exact ⟨HK5.out,.inr ⟨HO.out,d ++ ⟨#[101,45]⟩ ++ z,by rw [text_low hx hb.2.2.2]; simp [ByteArray.data_append,Hd.out,Hz.out],rfl⟩⟩
   ·
    go_upto_region 9 with fail
    have hK4:=HK3.out.alloc (.cells #[.string ⟨#[102]⟩,.string ⟨#[112]⟩,.string ⟨#[110]⟩,.string ⟨#[117]⟩,.string ⟨#[109]⟩,.string ⟨#[]⟩,.string ⟨#[107]⟩,.string ⟨#[109,101,103]⟩,.string ⟨#[103]⟩] 9)
    have hC:∀ k,(w3.alloc (.cells #[.string ⟨#[102]⟩,.string ⟨#[112]⟩,.string ⟨#[110]⟩,.string ⟨#[117]⟩,.string ⟨#[109]⟩,.string ⟨#[]⟩,.string ⟨#[107]⟩,.string ⟨#[109,101,103]⟩,.string ⟨#[103]⟩] 9)).cell? ⟨w3.heap.size,k,none⟩ = (#[.string ⟨#[102]⟩,.string ⟨#[112]⟩,.string ⟨#[110]⟩,.string ⟨#[117]⟩,.string ⟨#[109]⟩,.string ⟨#[]⟩,.string ⟨#[107]⟩,.string ⟨#[109,101,103]⟩,.string ⟨#[103]⟩]:Array Value)[k]?:=fun k => World.cell?_alloc_at _ _ _ _ rfl
    generalize w3.alloc (.cells #[.string ⟨#[102]⟩,.string ⟨#[112]⟩,.string ⟨#[110]⟩,.string ⟨#[117]⟩,.string ⟨#[109]⟩,.string ⟨#[]⟩,.string ⟨#[107]⟩,.string ⟨#[109,101,103]⟩,.string ⟨#[103]⟩] 9) = W4 at hK4 hC ⊢
    obtain ⟨p4,hp4⟩:∃ p,p = w3.heap.size:=⟨_,rfl⟩
    rw [← hp4] at hC ⊢
    have HK4:=hid' hK4
    have HC:=hid' hC
    clear hp4 hK4 hC q0 q1 q2 q3
    obtain ⟨q0,q1,q2,q3⟩:=(HR.out.kept HK4.out).all
    go_wp2_with fail
    go_loopw [4,6] (fun vs vi wr => ∃ i:Nat,i < 9∧vs = .string d∧vi = .int .i64 (i:Int)∧wr = W4∧x < 3 * (i:Int) - 12) (fun _ vi _ => (intOf vi).toNat)
    case atStart => exact ⟨8,by omega,rfl,rfl,rfl,by omega⟩
    case round =>
     obtain ⟨i,hi,rfl,rfl,hwr,hxi⟩:=hrel
     subst hwr
     have hi0:(0:Int)≤(i:Int):=by omega
     have hw1:IntKind.i64.wrap (3 * (i:Int)) = 3 * (i:Int):=wrap_i64' (by omega) (by omega)
     have hw2:IntKind.i64.wrap (3 * (i:Int) - 15) = 3 * (i:Int) - 15:=wrap_i64' (by omega) (by omega)
     by_cases hle:3 * (i:Int) - 15≤x
     ·
      obtain ⟨nm,hnl,hcv,hbe⟩:=idxD i hi
      have hc:=(HC.out i).trans hcv
      have HB:=hid' (hbe x hle hxi)
      clear hcv hbe
      obtain ⟨nb,hnb⟩:∃ d:ByteArray,d = ⟨nm.toArray⟩:=⟨_,rfl⟩
      rw [← hnb] at hc
      have Hn:Hid (nb.data.toList = nm):=by show _ = _; rw [hnb]
      have hns:nb.size≤3:=by rw [size_of Hn.out]; exact hnl
      clear hnb
      go_wp2_with fail
      go_loopw [4,7] (fun vs vk wq => ∃ (c:Nat) (t:ByteArray),vs = .string t∧vk = .int .i64 (3 * (i:Int) - 15 + (c:Int))∧3 * (i:Int) - 15 + (c:Int)≤x∧wq = wr∧t.size≤20∧Hid (t.data.toList = Lib.itoa m ++ List.replicate c 48)) (fun _ vk _ => (x - intOf vk).toNat)
      case atStart => exact ⟨0,d,rfl,by simp,by omega,rfl,by omega,by show _ = _; rw [Hd.out]; simp⟩
      case round =>
       obtain ⟨c,t,rfl,rfl,hcx,hwq,hts,Ht⟩:=hrel
       subst hwq
       have hc2:c≤2:=by omega
       have htl:t.size≤12:=by rw [size_of Ht.out,List.length_append,List.length_replicate]; have:=itoa_len m hb.1 hb.2.1; omega
       by_cases hlt:3 * (i:Int) - 15 + (c:Int) < x
       ·
        have hw3:IntKind.i64.wrap (3 * (i:Int) - 15 + (c:Int) + 1) = 3 * (i:Int) - 15 + (c:Int) + 1:=wrap_i64' (by omega) (by omega)
        have hA:¬ 9223372036854775807 < t.size + 1:=by omega
        have hA':¬ 9223372036854775807 < t.size + (⟨#[48]⟩:ByteArray).size:=by show ¬ _ < _ + 1; omega
        go_wp2_with fail
        go_roundw
        case rel => exact ⟨c + 1,t ++ ⟨#[48]⟩,rfl,by congr 1; omega,by omega,trivial,by rw [ByteArray.size_append]; show _ + 1≤_; omega,by show _ = _; rw [ByteArray.data_append,Array.toList_append,Ht.out,List.append_assoc,← List.replicate_succ']⟩
        case measure => show (x - (3 * (i:Int) - 15 + (c:Int) + 1)).toNat < (x - (3 * (i:Int) - 15 + (c:Int))).toNat; omega
       ·
        have hA:¬ 9223372036854775807 < t.size + nb.size:=by omega
        go_wp2_with fail
        go_ret2
        exact ⟨HK.out.trans HK4.out,.inr ⟨HO.out,t ++ nb,by unfold textOf; rw [HB.out]; simp [ByteArray.data_append,Ht.out,Hn.out]; omega,rfl⟩⟩
     ·
      have hi1:1≤i:=by omega
      have hwi:IntKind.i64.wrap ((i:Int) - 1) = (i:Int) - 1:=wrap_i64' (by omega) (by omega)
      go_wp2_with fail
      go_roundw
      case rel => exact ⟨i - 1,by omega,rfl,by congr 1; omega,trivial,by omega⟩
      case measure => show ((i:Int) - 1).toNat < (i:Int).toNat; omega
 ·
  have ho:okN m x = false:=by simpa using ho
  rw [ho]
  have HO:=hid' ho
  clear ho
  go_wp2
  go_ret2
  exact ⟨HK.out.trans HK1.out,.inl ⟨HO.out,rfl⟩⟩
end Q
end Go.Proofs.YtembglnonhlnkaaGreatDoor

namespace Go.Proofs.YtembglnonhlnkaaGreatDoor
open Go.RowKit
namespace V
open Q (hid' parseOf Lett ErrV Tab okN textOf)
open X (bs OwnS RS strs bs_list bs_size)
set_option maxRecDepth 100000 in
set_option maxHeartbeats 4000000 in
theorem rtx7_any (m x:Int) (w:World) :
  Calls Tryz.prog 45 #[.agg #[.int .i64 m,.int .i64 x]] w fun e w' => Kept w w'∧e = .returned (.string (bs (tx (m,x)))):=by
 have hc:=fun V => Q.rtext_any m x V
 have HT:=hid' (show ∀ e,Q.TextIs e m x→∃ z,e = .returned (.tuple #[.string (bs (tx (m,x))),.int .i64 z]) by
  rintro e (⟨h1,rfl⟩ | ⟨h1,t,ht,rfl⟩)
  ·
   exact ⟨30,by unfold tx; rw [if_neg (by rw [h1]; decide)]; rfl⟩
  ·
   exact ⟨0,by unfold tx; rw [if_pos h1,← ht]; rfl⟩)
 generalize bs (tx (m,x)) = r at HT ⊢
 go_enter Tryz.func45,Tryz.ntmps45
 go_wp2_with fail
 refine (hc _).mono ?_
 rintro e w1 ⟨hk,he⟩
 obtain ⟨z,rfl⟩:=HT.out e he
 have HK:=hid' hk
 clear hk hc he
 go_wp2_with fail
 go_ret
 exact ⟨by first | exact HK.out | exact ((Kept.refl _).alloc _).trans HK.out,rfl⟩
set_option maxRecDepth 100000 in
set_option maxHeartbeats 8000000 in
theorem rwriteM_any (s:ByteArray) (k:Int) (a1 a2:Option Addr) (n c n2 c2:Nat) (gs vs:List (Int × Int)) (w:World) (hs:s.size≤9223372036854775807) (h1:NSl w (.slice a1 n c) gs) (h2:NSl w (.slice a2 n2 c2) vs) (hn:n≤4611686018427387903) (hm:n2≤4611686018427387903) :
  Calls Tryz.prog 19 #[.agg #[.string s,.int .u8 k,.slice a1 n c,.slice a2 n2 c2]] w fun e w' => Kept w w'∧WmIs w.heap.size w' e ⟨s.data.toList,k,gs,vs⟩:=by
 have HC0:=hid' (And.intro h1 h2)
 have hva:=fun V (K:Kept w V) => rvalidM_any s k a1 a2 n c n2 c2 gs vs V hs (h1.kept K) (h2.kept K) hn hm
 have HLN:=hid' (And.intro h1.len h2.len)
 clear h1 h2
 obtain ⟨i0,hi,hz0,hz1,hz2⟩:=info_parts X.info_str
 cases hok:okM s.data.toList k gs vs
 ·
  rw [hok] at hva
  have HOK:=hid' hok
  go_enter Tryz.func19,Tryz.ntmps19
  go_wp2_with fail
  refine (hva _ ((Kept.refl w).alloc _)).mono ?_
  rintro e w1 ⟨hk,rfl⟩
  have HK:=hid' (((Kept.refl w).alloc _).trans hk)
  clear hk hva
  go_wp2_with fail
  go_ret2
  exact ⟨HK.out,.inl ⟨HOK.out,rfl⟩⟩
 ·
  rw [hok] at hva
  have HOK:=hid' (And.intro hok (okM_kind hok))
  clear hok
  go_enter Tryz.func19,Tryz.ntmps19
  go_wp2_with fail
  have hK:=(Kept.refl w).alloc (.cells #[.string s,.int .u8 k,.slice a1 n c,.slice a2 n2 c2] 43)
  have hA:=RowL.alloc 43 w [.string s,.int .u8 k,.slice a1 n c,.slice a2 n2 c2]
  generalize w.alloc (.cells #[.string s,.int .u8 k,.slice a1 n c,.slice a2 n2 c2] 43) = W0 at hK hA ⊢
  refine (hva _ hK).mono ?_
  rintro e w1 ⟨hk1,rfl⟩
  obtain ⟨p,hp⟩:∃ q,q = w.heap.size:=⟨_,rfl⟩
  rw [← hp] at hA ⊢
  have HP:=hid' hp
  have HW:=hid' (And.intro (hK.trans hk1) (hA.kept hk1))
  clear hK hA hk1 hva hp
  have f0:=HW.out.2.cell 0 (.string s)
  have f1:=HW.out.2.cell 1 (.int .u8 k)
  have hpw:¬ p = w1.heap.size:=by have:=HW.out.2.lt; omega
  have KN:=(Kept.refl w1).alloc (.cells #[.string ⟨#[46,109,111,100,101,108]⟩,.string s,.string ⟨#[100]⟩] 9)
  have f1':=(HW.out.2.kept KN).cell 1 (.int .u8 k)
  go_upto_if 14 with fail
  --%A
  go_cut [] (fun wc => Hid (Kept w1 wc∧OwnS (w.heap.size + 1) wc (.slice (some ⟨w1.heap.size,0,none⟩) 3 3) [[46,109,111,100,101,108],s.data.toList,[k.toNat.toUInt8]]))
  case first =>
   have hB:w.heap.size + 1≤w1.heap.size:=by have:=HW.out.2.lt; have:=HP.out; omega
   rcases HOK.out.2.1 with rfl | rfl
   ·
    have HF:=hid' (And.intro KN (lit3_own w1 (w.heap.size + 1) ⟨#[46,109,111,100,101,108]⟩ s ⟨#[100]⟩ hB))
    clear KN f1 f1' f0
    go_wp2_with fail
    go_meet
    case rel => exact HF.out
   ·
    have HF:=hid' (And.intro ((Kept.refl w1).alloc (.cells #[.string ⟨#[46,109,111,100,101,108]⟩,.string s,.string ⟨#[115]⟩] 9)) (lit3_own w1 (w.heap.size + 1) ⟨#[46,109,111,100,101,108]⟩ s ⟨#[115]⟩ hB))
    clear KN f1 f1' f0
    go_wp2_with fail
    go_meet
    case rel => exact HF.out
  case rest =>
   --%B
   have HI0:Hid (CwI w wc p 43 [.string s,.int .u8 k,.slice a1 n c,.slice a2 n2 c2] (.slice (some ⟨w1.heap.size,0,none⟩) 3 3) ([[46,109,111,100,101,108],s.data.toList,[k.toNat.toUInt8]] ++ mw gs vs 0)):=⟨HW.out.1.trans hcut.out.1,by rw [HP.out]; exact Nat.le_refl _,HW.out.2.kept hcut.out.1,by rw [mw,List.append_nil]; exact hcut.out.2⟩
   generalize (Value.slice (some ⟨w1.heap.size,0,none⟩) 3 3) = u0 at HI0 ⊢
   clear hcut KN f1 f1' f0 hpw
   have hn4:n≤4:=by have h1:=HOK.out.2.2.2.1; have h2:=HLN.out.1; omega
   go_wp2_with fail
   go_loopw [4,5] (fun vu vi wr => ∃ j:Nat,j≤n∧vi = .int .i64 (j:Int)∧Hid (CwI w wr p 43 [.string s,.int .u8 k,.slice a1 n c,.slice a2 n2 c2] vu ([[46,109,111,100,101,108],s.data.toList,[k.toNat.toUInt8]] ++ mw gs vs j))) (fun _ vi _ => n - (intOf vi).toNat)
   case atStart => exact ⟨0,Nat.zero_le _,rfl,HI0.out⟩
   case round =>
    obtain ⟨j,hj,rfl,HI⟩:=hrel
    clear HI0
    have f2:=HI.out.row.cell 2 (.slice a1 n c)
    by_cases hjt:j < n
    ·
     have hji:(j:Int) < (n:Int):=by omega
     obtain ⟨wk,hwk⟩:∃ l,l = [[46,109,111,100,101,108],s.data.toList,[k.toNat.toUInt8]] ++ mw gs vs j:=⟨_,rfl⟩
     rw [← hwk] at HI
     have HWK:=hid' hwk
     have HLW:=hid' (show wk.length≤100 by rw [hwk,List.length_append]; have:=mw_len gs vs j; simp only [List.length_cons,List.length_nil]; omega)
     clear hwk f2
     by_cases hj0:j = 0
     ·
      --%C
      have hjn:¬ (0:Int) < (j:Int):=by omega
      have HJ0:=hid' hj0
      clear hj0
      obtain ⟨ao',c',hv',hx⟩:=HC0.out.1.kept HI.out.kp
      simp only [Value.slice.injEq] at hv'
      obtain ⟨rfl,hnw0,rfl⟩:=hv'
      clear hnw0
      have hnw:n = gs.length:=HLN.out.1
      obtain ⟨b,off,rfl,hb,hcl⟩:=hx (by omega)
      obtain ⟨q0,q1⟩:=hcl j (by omega)
      generalize hy:gs.getD j (0,0) = y at q0 q1
      obtain ⟨y0,y1⟩:=y
      simp only at q0 q1
      have HY:=hid' hy
      have f2:=HI.out.row.cell 2 (.slice (some ⟨b,off,none⟩) n c)
      clear hx hcl hnw hy hb
      go_wp2_with fail
      refine (rtx7_any y0 y1 _).mono ?_
      rintro e w4 ⟨hkt,rfl⟩
      obtain ⟨tv,htv⟩:∃ t,t = bs (tx (y0,y1)):=⟨_,rfl⟩
      rw [← htv]
      have Htv:=hid' htv
      have HI:=hid' (HI.out.kept hkt)
      clear htv hkt q0 q1 f2
      have KA:=(Kept.refl w4).alloc (.cells #[.string tv] 9)
      go_wp2_with (at_builtin; refine wpList_append_lies _ rfl (.tmp 36) (.tmp 43) 22 rfl (w.heap.size + 1) 9 i0 (.string ByteArray.empty) 1 16 X.und_strs hi hz0 hz1 hz2 rfl (by decide) _ wk.length (strs wk) rfl (by exact (HI.out.kept KA).own) ⟨w4.heap.size,0,none⟩ 1 1 [.string tv] rfl rfl (X.cell_new w4 _ _) (fun u hu => by simp at hu; subst hu; rfl) (by omega) (by have:=HLW.out; unfold maxLen; omega) (by have:=HLW.out; omega) (by have:=HI.out.kp.size; have:=HI.out.row.lt; have:=HI.out.le; have:=HP.out; simp; omega) _ rfl ?_)
      intro g5 cap5 W5 own5 hg5 hgg5 _
      have HI:=hid' (HI.out.add (news:=[tv.data.toList]) KA own5 rfl hg5)
      clear own5 hg5 hgg5 KA
      go_wp2_with fail
      go_roundw
      case rel =>
       refine ⟨j + 1,by omega,by go_num,?_⟩
       rw [mw,HY.out,← bs_list (tx (y0,y1)),← Htv.out,if_pos HJ0.out,List.append_nil,← List.append_assoc,← HWK.out]
       exact HI.out
      case measure => show n - ((j:Int) + 1).toNat < n - (j:Int).toNat; omega
     ·
      --%D
      have hjp:(0:Int) < (j:Int):=by omega
      have hwr:IntKind.i64.wrap ((j:Int) - 1) = ((j - 1:Nat):Int):=by rw [IntKind.wrap_i64]; omega
      have hil:j - 1 < n2:=by have h1:=HOK.out.2.2.1; have h2:=HLN.out; omega
      have hili:((j - 1:Nat):Int) < (n2:Int):=by omega
      have hil0:(0:Int)≤((j - 1:Nat):Int):=by omega
      obtain ⟨ao2,cc2,hv2,hx2⟩:=HC0.out.2.kept HI.out.kp
      simp only [Value.slice.injEq] at hv2
      obtain ⟨rfl,hn20,rfl⟩:=hv2
      clear hn20
      have hnw2:n2 = vs.length:=HLN.out.2
      obtain ⟨b2,o2,rfl,hb2,hcl2⟩:=hx2 (by omega)
      obtain ⟨r0,r1⟩:=hcl2 (j - 1) (by omega)
      generalize hz:vs.getD (j - 1) (0,0) = z at r0 r1
      obtain ⟨z0,z1⟩:=z
      simp only at r0 r1
      have HZ:=hid' hz
      have HJ0:=hid' hj0
      obtain ⟨jm,hjm⟩:∃ t,t = j - 1:=⟨_,rfl⟩
      rw [← hjm] at r0 r1 hwr hil hili hil0
      have f2:=HI.out.row.cell 2 (.slice a1 n c)
      have f3:=HI.out.row.cell 3 (.slice (some ⟨b2,o2,none⟩) n2 c2)
      clear hx2 hcl2 hnw2 hz hj0 hjm hb2
      go_wp2_with fail
      refine (rtx7_any z0 z1 _).mono ?_
      rintro e w3 ⟨hkt,rfl⟩
      obtain ⟨tz,htz⟩:∃ t,t = bs (tx (z0,z1)):=⟨_,rfl⟩
      rw [← htz]
      have Htz:=hid' htz
      have HI:=hid' (HI.out.kept hkt)
      clear htz hkt r0 r1 f2 f3
      have KA:=(Kept.refl w3).alloc (.cells #[.string tz] 9)
      go_wp2_with (at_builtin; refine wpList_append_lies _ rfl (.tmp 26) (.tmp 34) 22 rfl (w.heap.size + 1) 9 i0 (.string ByteArray.empty) 1 16 X.und_strs hi hz0 hz1 hz2 rfl (by decide) _ wk.length (strs wk) rfl (by exact (HI.out.kept KA).own) ⟨w3.heap.size,0,none⟩ 1 1 [.string tz] rfl rfl (X.cell_new w3 _ _) (fun u hu => by simp at hu; subst hu; rfl) (by omega) (by have:=HLW.out; unfold maxLen; omega) (by have:=HLW.out; omega) (by have:=HI.out.kp.size; have:=HI.out.row.lt; have:=HI.out.le; have:=HP.out; simp; omega) _ rfl ?_)
      intro g4 cap4 W4 own4 hg4 hgg _
      have HI:=hid' (HI.out.add (news:=[tz.data.toList]) KA own4 rfl hg4)
      clear own4 hg4 hgg KA
      obtain ⟨wk2,hwk2⟩:∃ l,l = wk ++ [tz.data.toList]:=⟨_,rfl⟩
      have HL2:=hid' (show wk2.length≤101 by rw [hwk2,List.length_append]; have:=HLW.out; simp only [List.length_cons,List.length_nil]; omega)
      have hl2:wk.length + 1 = wk2.length:=by rw [hwk2,List.length_append]; rfl
      rw [← hwk2] at HI
      rw [hl2] at HI ⊢
      have HWK2:=hid' hwk2
      clear hwk2 hl2 HLW
      have HLW:=HL2
      obtain ⟨ao',c',hv',hx⟩:=HC0.out.1.kept HI.out.kp
      simp only [Value.slice.injEq] at hv'
      obtain ⟨rfl,hnw0,rfl⟩:=hv'
      clear hnw0
      have hnw:n = gs.length:=HLN.out.1
      obtain ⟨b,off,rfl,hb,hcl⟩:=hx (by omega)
      obtain ⟨q0,q1⟩:=hcl j (by omega)
      generalize hy:gs.getD j (0,0) = y at q0 q1
      obtain ⟨y0,y1⟩:=y
      simp only at q0 q1
      have HY:=hid' hy
      have f2:=HI.out.row.cell 2 (.slice (some ⟨b,off,none⟩) n c)
      clear hx hcl hnw hy hb
      go_wp2_with fail
      refine (rtx7_any y0 y1 _).mono ?_
      rintro e w4 ⟨hkt,rfl⟩
      obtain ⟨tv,htv⟩:∃ t,t = bs (tx (y0,y1)):=⟨_,rfl⟩
      rw [← htv]
      have Htv:=hid' htv
      have HI:=hid' (HI.out.kept hkt)
      clear htv hkt q0 q1 f2
      have KA:=(Kept.refl w4).alloc (.cells #[.string tv] 9)
      go_wp2_with (at_builtin; refine wpList_append_lies _ rfl (.tmp 36) (.tmp 43) 22 rfl (w.heap.size + 1) 9 i0 (.string ByteArray.empty) 1 16 X.und_strs hi hz0 hz1 hz2 rfl (by decide) _ wk2.length (strs wk2) rfl (by exact (HI.out.kept KA).own) ⟨w4.heap.size,0,none⟩ 1 1 [.string tv] rfl rfl (X.cell_new w4 _ _) (fun u hu => by simp at hu; subst hu; rfl) (by omega) (by have:=HLW.out; unfold maxLen; omega) (by have:=HLW.out; omega) (by have:=HI.out.kp.size; have:=HI.out.row.lt; have:=HI.out.le; have:=HP.out; simp; omega) _ rfl ?_)
      intro g5 cap5 W5 own5 hg5 hgg5 _
      have HI:=hid' (HI.out.add (news:=[tv.data.toList]) KA own5 rfl hg5)
      clear own5 hg5 hgg5 KA
      go_wp2_with fail
      go_roundw
      case rel =>
       refine ⟨j + 1,by omega,by go_num,?_⟩
       rw [mw,HY.out,HZ.out,← bs_list (tx (y0,y1)),← Htv.out,if_neg HJ0.out,← bs_list (tx (z0,z1)),← Htz.out,← List.append_assoc,← List.append_assoc,← HWK.out,← HWK2.out]
       exact HI.out
      case measure => show n - ((j:Int) + 1).toNat < n - (j:Int).toNat; omega
    ·
     --%E
     have hji:¬ (j:Int) < (n:Int):=by omega
     have hjn:j = n:=by omega
     have HF:=hid' (show Kept w wr∧OwnS w.heap.size wr _ (mwords ⟨s.data.toList,k,gs,vs⟩) from ⟨HI.out.kp,by
      have:=OwnS.mono HI.out.own (Nat.le_succ w.heap.size)
      rw [hjn,HLN.out.1] at this
      exact this⟩)
     clear hjn
     go_wp2_with fail
     go_ret2
     exact ⟨HF.out.1,.inr ⟨HOK.out.1,_,rfl,HF.out.2⟩⟩
end V
end Go.Proofs.YtembglnonhlnkaaGreatDoor

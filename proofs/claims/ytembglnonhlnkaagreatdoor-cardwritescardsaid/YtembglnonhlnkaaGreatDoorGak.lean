/- Take of package shuntref01: limbs as digits in base 65536. Less, Sign, Held of package shuntref01. Digits of package shuntref01. -/
import Derived.Test.YtembglnonhlnkaaGreatDoorGai
import Derived.Deep.AppendLies
import Derived.Test.YtembglnonhlnkaaGreatDoorGae
import Derived.Test.YtembglnonhlnkaaGreatDoorGab
import Derived.Deep.AppendSrc
namespace Go.Proofs.YtembglnonhlnkaaGreatDoor
open Go.RowKit
namespace D
end D
end Go.Proofs.YtembglnonhlnkaaGreatDoor

namespace Go.Proofs.YtembglnonhlnkaaGreatDoor
open Go.RowKit
namespace D
theorem sign_of {w:World} {m:Bool} {ao:Option Addr} {k cap:Nat} {z:Int} (h:NIs w m (.slice ao k cap) z):isgn z 0 = if k = 0 then 0 else if m then -1 else 1:=by
 obtain ⟨l,hs,hr,rfl⟩:=h
 have e:=hs.len
 subst e
 by_cases h0:l.length = 0
 ·
  rw [if_pos h0,int_zero h0]; rfl
 ·
  have hp:=D.val_pos hr.tr (fun e => h0 (by rw [e]; rfl))
  rw [if_neg h0]
  unfold isgn int
  cases m <;> simp <;> omega
set_option maxHeartbeats 1000000 in
theorem Sign_any (m:Bool) (ao:Option Addr) (k cap:Nat) (z:Int) (w:World) (h:NIs w m (.slice ao k cap) z) (_hk:k≤1000000) :
  Calls Tryz.prog 73 #[.agg #[.bool m,.slice ao k cap]] w fun e w' => e = .returned (.int .i64 (isgn z 0))∧Kept w w':=by
 rw [sign_of h]
 clear h
 by_cases h0:k = 0
 ·
  rw [if_pos h0]
  have hb:((k:Int) == 0) = true:=beq_iff_eq.2 (by omega)
  clear h0
  go_enter Tryz.func73,Tryz.ntmps73
  go_wp2
  go_ret
  exact ⟨rfl,(Kept.refl w).alloc _⟩
 ·
  rw [if_neg h0]
  have hb:((k:Int) == 0) = false:=beq_eq_false_iff_ne.2 (by omega)
  clear h0
  cases m
  all_goals
   go_enter Tryz.func73,Tryz.ntmps73
   go_wp2
   go_ret
   exact ⟨rfl,(Kept.refl w).alloc _⟩
end D
end Go.Proofs.YtembglnonhlnkaaGreatDoor

namespace Go.Proofs.YtembglnonhlnkaaGreatDoor
open Go.RowKit
def tx (m:Bool) (D:List UInt8):List UInt8:=if m then 45 :: D else D
namespace D
def strLen:Value→Nat
 | .string s => s.size
 | _ => 0
theorem ten_step {l o:List Nat} {k r by_ x s:Nat} (hk:0 < k) (hkl:k≤l.length) (hol:o.length = l.length) (hx:x = l.getD (k - 1) 0) (hs:s = r * 65536 + x)
  (h:D.val (l.drop k) = by_ * D.val (o.drop k) + r):D.val (l.drop (k - 1)) = by_ * D.val ((o.set (k - 1) (s / by_)).drop (k - 1)) + s % by_:=by
 rw [D.drop_getD l (k - 1) (by omega),D.drop_getD _ (k - 1) (by rw [List.length_set]; omega),show k - 1 + 1 = k by omega,h,getD_set _ _ _ _ (by omega),if_pos rfl,List.drop_set_of_lt (by omega),← hx]
 have e1:=Nat.div_add_mod s by_
 have e2:by_ * (s / by_ + 65536 * D.val (o.drop k)) = by_ * (s / by_) + 65536 * (by_ * D.val (o.drop k)):=by
  rw [Nat.mul_add,Nat.mul_left_comm]
 rw [e2]
 omega
theorem trim_at (ao:Option Addr) (n cap:Nat) (l:List Nat) (w:World) (h:Sl w (.slice ao n cap) l) (hl:l.length≤1000000) :
  Calls Tryz.prog 106 #[.slice ao n cap] w fun e w' => w' = w∧∃ k,k≤l.length∧D.Tr (l.take k)∧D.val (l.take k) = D.val l ∧
   ∃ ao' cap',e = .returned (.slice ao' k cap')∧(0 < k→ao' = ao∧cap' = cap):=by
 have e:=h.len
 subst e
 exact trim_raw ao cap l w h hl
theorem dig_front {V q r:Nat} {S:List UInt8} {o:Nat} (ho:o = 10 * q + r) (hr:r < 10) (h:V = o * 10 ^ S.length + dv S):V = q * 10 ^ (UInt8.ofNat (48 + r) :: S).length + dv (UInt8.ofNat (48 + r) :: S):=by
 have h1:dv (UInt8.ofNat (48 + r) :: S) = r * 10 ^ S.length + dv S:=by
  rw [show UInt8.ofNat (48 + r) :: S = [UInt8.ofNat (48 + r)] ++ S from rfl,dv_append]
  congr 2
  show 0 * 10 + ((UInt8.ofNat (48 + r)).toNat - 48) = r
  rw [ofNat_digit hr]; omega
 rw [h1,h,ho,List.length_cons,Nat.pow_succ,Nat.add_mul,Nat.mul_comm 10 q,Nat.mul_assoc q 10,Nat.mul_comm 10 (10 ^ S.length)]
 omega
theorem own_emptyI (w:World) (B b:Nat) (hb:w.heap.size = b) (hB:B≤b):(w.alloc (Obj.cells #[] 3)).ownsRow B 3 1 (.slice (some ⟨b,0,none⟩) 0 0) 0 []:=by
 subst hb
 refine ⟨rfl,.inr ⟨w.heap.size,0,#[],rfl,hB,?_,Nat.le_refl _,by unfold maxLen; omega,rfl,rfl⟩⟩
 show (w.heap.push _)[w.heap.size]? = _
 simp
theorem dig_len {l o:List Nat} {S:List UInt8} (hb:D.Bd l) (hl:l.length≤200) (ho:0 < D.val o) (h:D.val l = D.val o * 10 ^ S.length + dv S):S.length≤1000:=by
 obtain ⟨q,hq⟩:∃ q,q = 200:=⟨_,rfl⟩
 have h1:1 * 10 ^ S.length≤D.val o * 10 ^ S.length:=Nat.mul_le_mul_right _ ho
 have h2:=D.val_lt hb
 have h3:65536 ^ l.length≤65536 ^ q:=Nat.pow_le_pow_right (by decide) (by omega)
 have h4:65536 ^ q≤(10 ^ 5) ^ q:=Nat.pow_le_pow_left (by decide) q
 rw [← Nat.pow_mul] at h4
 have h5:10 ^ S.length < 10 ^ (5 * q):=by omega
 have:=(Nat.pow_lt_pow_iff_right (a:=10) (by decide)).1 h5
 omega
theorem str_cons (c:UInt8) (S:List UInt8):(⟨#[c]⟩ ++ ⟨S.toArray⟩:ByteArray) = ⟨(c :: S).toArray⟩:=by
 apply ByteArray.ext
 simp
theorem conv_one (w:World) (r:Nat):(convert 78 9 (.slice (some ⟨w.heap.size,0,none⟩) 1 1)).run Tryz.prog (w.alloc (Obj.cells #[.int .u8 (48 + (r:Int))] 5)) = .ok (.string ⟨#[UInt8.ofNat (48 + r)]⟩) (w.alloc (Obj.cells #[.int .u8 (48 + (r:Int))] 5)):=by
 have h1:=run_convert_bytes_arg (P:=Tryz.prog) (w.alloc (Obj.cells #[.int .u8 (48 + (r:Int))] 5)) 78 5 Tryz.underlying78 Tryz.underlying5 w.heap.size 0 1 1 [48 + (r:Int)] rfl (fun i hi => by
  have:i = 0:=by omega
  subst this
  exact World.cell?_alloc_at _ _ _ _ (by simp)) 9 Tryz.underlying9
 rw [h1]
 have e:(48 + (r:Int)).toNat = 48 + r:=by omega
 simp [strOfNums,e]
set_option maxRecDepth 100000 in
set_option maxHeartbeats 4000000 in
theorem Digits_some (m:Bool) (ao:Option Addr) (cap:Nat) (l:List Nat) (w:World) (h:Sl w (.slice ao l.length cap) l) (hr:Right m l) (h0:0 < l.length) (hl:l.length≤200) :
  Calls Tryz.prog 89 #[.agg #[.bool m,.slice ao l.length cap]] w fun e w' => Kept w w'∧∃ S:List UInt8,NZ S∧dv S = D.val l∧e = .returned (.string ⟨(tx m S).toArray⟩):=by
 obtain ⟨i0,hi,hz0,hz1,hz2⟩:=info_parts infoI
 have HS:Hid (Sl w (.slice ao l.length cap) l∧Right m l):=⟨h,hr⟩
 have hvp:=D.val_pos hr.tr (fun e => by rw [e] at h0; simp at h0)
 have hsg:isgn (int m l) 0 = if m then -1 else 1:=by
  have:=sign_of (w:=w) ⟨l,h,hr,rfl⟩
  rw [if_neg (by omega)] at this
  exact this
 have HN:Hid (NIs w m (.slice ao l.length cap) (int m l)):=⟨l,h,hr,rfl⟩
 have hsb:((if m then -1 else 1:Int) == 0) = false:=by cases m <;> rfl
 generalize hsv:(if m then -1 else 1:Int) = sv at hsg hsb
 have HSG:Hid (isgn (int m l) 0 = sv):=hsg
 have hml:l.length≤maxLen:=by unfold maxLen; omega
 clear h hr hsg hsv
 obtain ⟨ba,oa,rfl,hcapa,hca⟩:∃ b off,ao = some ⟨b,off,none⟩∧l.length≤cap∧∀ j,j < l.length→w.cell? ⟨b,off + j,none⟩ = some (.int .i64 ((l.getD j 0:Nat):Int)):=by
  obtain ⟨_,ao',cap',he,hx⟩:=HS.out.1
  simp only [Value.slice.injEq] at he
  obtain ⟨rfl,_,rfl⟩:=he
  obtain ⟨h1,b,off,rfl,_,hc⟩:=hx h0
  exact ⟨b,off,rfl,h1,hc⟩
 have HCA:Hid (∀ j,j < l.length→w.cell? ⟨ba,oa + j,none⟩ = some (.int .i64 ((l.getD j 0:Nat):Int))):=hca
 clear hca
 go_enter Tryz.func89,Tryz.ntmps89
 go_wp2_with fail
 refine (Sign_any m _ l.length cap _ _ (HN.out.kept ((Kept.refl w).alloc _)) (by omega)).mono ?_
 rintro e w1 ⟨rfl,hk1⟩
 rw [HSG.out]
 obtain ⟨hA0,hA1⟩:=box_kept hk1
 have HK1:Hid (Kept w w1):=((Kept.refl w).alloc _).trans hk1
 have hz1':w.heap.size + 1≤w1.heap.size:=by have:=hk1.size; simpa using this
 clear hk1
 have gA0:=fun x => cell_kept ((Kept.refl w1).alloc x) hA0
 have gA1:=fun x => cell_kept ((Kept.refl w1).alloc x) hA1
 go_wp2_with (at_builtin; refine wpList_append_lies _ rfl _ _ 28 rfl w1.heap.size 3 i0 (.int .i64 0) 1 8 Tryz.underlying28 hi hz0 hz1 hz2 rfl (by decide) _ 0 [] rfl (own_emptyI w1 _ _ rfl (Nat.le_refl _)) ⟨ba,oa,none⟩ l.length cap (us l) rfl (by simp [us]) (Sl.news (fun j hj => cell_kept (HK1.out.alloc _) (HCA.out j hj))) (us_oneCell l) h0 (by omega) (by omega) (by simp) _ rfl ?_)
 intro g capg w2 hown hgrow _ _
 replace hown:w2.ownsRow w1.heap.size 3 1 (.slice (some ⟨g,0,none⟩) l.length capg) l.length (us l):=by simpa using hown
 obtain ⟨g',N',f,hv,hBg,hnN,hNm,hrow,hf⟩:=row_of_owns hown h0
 simp only [Value.slice.injEq,Option.some.injEq,Addr.mk.injEq,and_true,true_and] at hv
 obtain ⟨rfl,rfl⟩:=hv
 have hB2:Below w1.heap.size w1 w2:=Below.grown ((Below.refl _ w1).alloc (Nat.le_refl _) _) hgrow (by simp) (fun j hj => by simp [Value.ownBlock] at hj; omega)
 have HK2:Hid (Kept w w2):=HK1.out.trans hB2
 replace hA0:=(Below.cell hB2 (p:=⟨w.heap.size,0,none⟩) (show w.heap.size < w1.heap.size by omega)).trans hA0
 have HR2:Hid (w2.rowIs g 3 capg f∧∀ j,j < l.length→f j = .int .i64 ((l.getD j 0:Nat):Int)):=⟨hrow,hf⟩
 have hgB:w.heap.size < g:=by omega
 have HTR:Hid (Right m l):=HS.out.2
 clear hown hgrow hB2 hrow hf gA0 gA1 hA1 HN HSG HCA hBg
 go_wp2
 go_loopw [3,4] (fun vs vd wr => ∃ (S:List UInt8) (o:List Nat) (ao':Option Addr) (cap':Nat),vs = .string ⟨S.toArray⟩∧vd = .slice ao' o.length cap'∧o.length≤l.length∧S.length≤1001∧(0 < o.length→ao' = some ⟨g,0,none⟩∧cap' = capg)∧wr.cell? ⟨w.heap.size,0,none⟩ = some (.bool m) ∧
   Hid (D.Bd o∧D.Tr o∧D.val l = D.val o * 10 ^ S.length + dv S∧Dig S∧(o = []→NZ S))∧Hid (∃ f,wr.rowIs g 3 capg f∧∀ j,j < o.length→f j = .int .i64 ((o.getD j 0:Nat):Int))∧Hid (Kept w wr)) (fun vs _ _ => 1002 - strLen vs)
 case atStart => exact ⟨[],l,some ⟨g,0,none⟩,capg,rfl,rfl,Nat.le_refl _,by simp,fun _ => ⟨rfl,rfl⟩,hA0,⟨HTR.out.bd,HTR.out.tr,by simp [dv,dvF],(fun c hc => by cases hc),(fun e => by rw [e] at h0; simp at h0)⟩,⟨f,HR2.out⟩,HK2.out⟩
 case round =>
  obtain ⟨S,o,ao',cap',rfl,rfl,hol,hSl,hao,hb0,ho,hrow,hkw⟩:=hrel
  by_cases h0':0 < o.length
  ·
   obtain ⟨rfl,rfl⟩:=hao h0'
   have hvo:0 < D.val o:=D.val_pos ho.out.2.1 (fun e => by rw [e] at h0'; simp at h0')
   have hS:=dig_len HTR.out.bd hl hvo ho.out.2.2.1
   go_wp2
   go_loopw [5,6] (fun vr vi wr2 => ∃ (k r:Nat) (q:List Nat),k≤o.length∧r < 10∧vi = .int .i64 ((k:Int) - 1)∧vr = .int .i64 (r:Int)∧Hid (q.length = o.length∧D.Bd q∧(∀ j,j < k→q.getD j 0 = o.getD j 0)∧D.val (o.drop k) = 10 * D.val (q.drop k) + r) ∧
     Hid (∃ f,wr2.rowIs g 3 cap' f∧∀ j,j < o.length→f j = .int .i64 ((q.getD j 0:Nat):Int))∧wr2.cell? ⟨w.heap.size,0,none⟩ = some (.bool m)∧Hid (Kept w wr2)) (fun _ vi _ => (intOf vi + 1).toNat)
   case atStart => exact ⟨o.length,0,o,Nat.le_refl _,by omega,by go_num,rfl,⟨rfl,ho.out.1,fun _ _ => rfl,by rw [List.drop_of_length_le (Nat.le_refl _)]; rfl⟩,hrow.out,hb0,hkw.out⟩
   case round =>
    obtain ⟨k,r,q,hk,hr10,rfl,rfl,hq,hrow2,hb2,hkw2⟩:=hrel
    by_cases hk0:k = 0
    ·
     subst hk0
     have hqo:D.val o = 10 * D.val q + r:=by have:=hq.out.2.2.2; simpa using this
     have HQ:Hid (D.val o = 10 * D.val q + r):=hqo
     have HSl:Hid (Sl wr (.slice (some ⟨g,0,none⟩) o.length cap') q):=by
      obtain ⟨f',hf1,hf2⟩:=hrow2.out
      refine ⟨hq.out.2.1,_,cap',by rw [hq.out.1],fun _ => ⟨by rw [hq.out.1]; exact Nat.le_trans hol hnN,g,0,rfl,hf1.lt,fun j hj => ?_⟩⟩
      have hj':j < o.length:=by rw [← hq.out.1]; exact hj
      have hjc:j < cap':=by omega
      rw [Nat.zero_add,hf1.cell hjc,hf2 j hj']
     clear hqo
     go_wp2_with fail
     refine (trim_at _ _ _ q _ HSl.out (by rw [hq.out.1]; omega)).mono ?_
     rintro e w3 ⟨rfl,n,hn,htr,hval,ao2,cap2,rfl,himp⟩
     have HT:Hid (n≤q.length∧D.Tr (q.take n)∧D.val (q.take n) = D.val q∧(0 < n→ao2 = some ⟨g,0,none⟩∧cap2 = cap')):=⟨hn,htr,hval,himp⟩
     clear hn htr hval himp
     have hconv:=conv_one w3 r
     obtain ⟨c,hc⟩:∃ c,c = UInt8.ofNat (48 + r):=⟨_,rfl⟩
     rw [← hc] at hconv
     have HC:Hid (c = UInt8.ofNat (48 + r)):=hc
     clear hc
     go_wp2
     go_roundw
     case rel =>
      have hV:=dig_front HQ.out hr10 ho.out.2.2.1
      rw [← HC.out] at hV
      have hcn:c.toNat = 48 + r:=by rw [HC.out]; exact ofNat_digit hr10
      have hlt:(q.take n).length = n:=by rw [List.length_take]; exact Nat.min_eq_left HT.out.1
      refine ⟨c :: S,q.take n,ao2,cap2,by rw [str_cons],by rw [hlt],by rw [hlt]; have:=HT.out.1; rw [hq.out.1] at this; omega,by simp; omega,by rw [hlt]; exact HT.out.2.2.2,cell_kept ((Kept.refl _).alloc _) hb2,⟨hq.out.2.1.take n,HT.out.2.1,by rw [HT.out.2.2.1]; exact hV,?_,?_⟩,?_,hkw2.out.alloc _⟩
      ·
       intro x hx
       rcases List.mem_cons.1 hx with rfl | hx
       ·
        omega
       ·
        exact ho.out.2.2.2.1 x hx
      ·
       intro e
       have hq0:D.val q = 0:=by rw [← HT.out.2.2.1,e]; rfl
       have hr0:r = D.val o:=by have:=HQ.out; omega
       refine ⟨by simp,fun x hx => ?_,fun x hx => ?_⟩
       ·
        rcases List.mem_cons.1 hx with rfl | hx
        ·
         omega
        ·
         exact ho.out.2.2.2.1 x hx
       ·
        simp at hx
        subst hx
        omega
      ·
       obtain ⟨f',hf1,hf2⟩:=hrow2.out
       refine ⟨f',hf1.of_block (by rw [Below.heap_alloc _ _ _ hf1.lt]),fun j hj => ?_⟩
       rw [hlt] at hj
       have hn:=HT.out.1
       rw [hq.out.1] at hn
       rw [hf2 j (by omega),List.getD_eq_getElem?_getD,List.getD_eq_getElem?_getD,List.getElem?_take_of_lt hj]
     case measure => simp [strLen,str_cons,ByteArray.size]; omega
    ·
     obtain ⟨f',hf1,hf2⟩:=hrow2.out
     have hck:wr.cell? ⟨g,k - 1,none⟩ = some (.int .i64 ((o.getD (k - 1) 0:Nat):Int)):=by rw [hf1.cell (by omega),hf2 _ (by omega),hq.out.2.2.1 _ (by omega)]
     have hfz:wr.frozen? ⟨g,k - 1,none⟩ = false:=hf1.frozen _
     have hbd:=ho.out.1.getD (k - 1)
     obtain ⟨x,hx⟩:∃ x,x = o.getD (k - 1) 0:=⟨_,rfl⟩
     rw [← hx] at hck hbd
     have HX:Hid (x = o.getD (k - 1) 0):=hx
     have h1:1≤k:=by omega
     have hw1:IntKind.i64.wrap ((r:Int) * 65536) = (r:Int) * 65536:=by rw [IntKind.wrap_i64]; omega
     have hw2:IntKind.i64.wrap ((r:Int) * 65536 + (x:Int)) = (r:Int) * 65536 + (x:Int):=by rw [IntKind.wrap_i64]; omega
     have hne:¬ (g = w.heap.size):=by omega
     clear hx hf1 hf2
     go_wp2
     go_roundw
     case rel =>
      obtain ⟨f',hf1,hf2⟩:=hrow2.out
      have hql:q.length = o.length:=hq.out.1
      refine ⟨k - 1,(r * 65536 + x) % 10,q.set (k - 1) ((r * 65536 + x) / 10),by omega,Nat.mod_lt _ (by decide),by go_num,by simp,⟨by rw [List.length_set]; exact hq.out.1,Bd_set hq.out.2.1 _ _ (by omega),fun j hj => ?_,ten_step h1 hk hql HX.out rfl hq.out.2.2.2⟩,⟨_,hf1.set _ _,fun j hj => ?_⟩,?_,hkw2.out.setCell (by simp; omega) _⟩
      ·
       rw [getD_set _ _ _ _ (by omega),if_neg (by omega)]; exact hq.out.2.2.1 j (by omega)
      ·
       rw [getD_set _ _ _ _ (by omega)]
       by_cases e:j = k - 1
       ·
        rw [if_pos e,if_pos e]
        congr 1
        try omega
       ·
        rw [if_neg e,if_neg e]; exact hf2 j hj
      ·
       rw [World.cell?_setCell_far _ _ _ _ hne]; exact hb2
     case measure => simp [intOf]; omega
  ·
   have hoe:o = []:=List.length_eq_zero_iff.1 (by omega)
   have HE:Hid (NZ S∧dv S = D.val l):=by
    refine ⟨ho.out.2.2.2.2 hoe,?_⟩
    have:=ho.out.2.2.1
    rw [hoe] at this
    simpa [D.val] using this.symm
   have hkk:=hkw.out
   clear hao hoe
   cases m
   ·
    go_wp2
    go_ret
    exact ⟨hkw.out,S,HE.out.1,HE.out.2,by simp [tx]⟩
   ·
    go_wp2
    go_ret
    exact ⟨hkw.out,S,HE.out.1,HE.out.2,by simp [tx,str_cons]⟩
set_option maxHeartbeats 1000000 in
theorem Digits_nil (ao:Option Addr) (cap:Nat) (w:World) :
  Calls Tryz.prog 89 #[.agg #[.bool false,.slice ao 0 cap]] w fun e w' => Kept w w'∧e = .returned (.string ⟨#[48]⟩):=by
 have HN:Hid (NIs w false (.slice ao 0 cap) 0):=⟨[],Sl.nil _ _ _,⟨D.Bd_nil,.inl rfl,fun _ => rfl⟩,rfl⟩
 go_enter Tryz.func89,Tryz.ntmps89
 go_wp2_with fail
 refine (Sign_any false _ 0 cap _ _ (HN.out.kept ((Kept.refl w).alloc _)) (by omega)).mono ?_
 rintro e w1 ⟨rfl,hk1⟩
 rw [show isgn 0 0 = 0 from rfl]
 have HK1:Hid (Kept w w1):=((Kept.refl w).alloc _).trans hk1
 clear hk1
 go_wp2
 go_ret
 exact ⟨HK1.out,rfl⟩
theorem Digits_any (s:Bool) (ao:Option Addr) (k cap:Nat) (m:Bool) (l:List Nat) (w:World) (h:NIs w s (.slice ao k cap) (M.int m l)) (hr:M.Right m l) (hk:k≤200) :
  Calls Tryz.prog 89 #[.agg #[.bool s,.slice ao k cap]] w fun e w' => Kept w w'∧∃ S:List UInt8,Plain S∧dv S = M.val l∧e = .returned (.string ⟨(tx m S).toArray⟩):=by
 obtain ⟨d,hs,hrd,hz⟩:=h
 have e:=hs.len
 subst e
 have hv:D.val d = M.val l:=by rw [← D.natAbs_int s d,hz,M.natAbs_int]
 by_cases h0:0 < d.length
 ·
  have hp:=D.val_pos hrd.tr (fun e => by rw [e] at h0; simp at h0)
  have hsm:s = m:=by
   unfold int M.int at hz
   cases s <;> cases m <;> simp at hz <;> first | rfl | omega
  subst hsm
  refine (Digits_some s ao cap d w hs hrd h0 hk).mono ?_
  rintro e w' ⟨hkk,S,h1,h2,rfl⟩
  exact ⟨hkk,S,.inr h1,by rw [h2,hv],rfl⟩
 ·
  have hd:d = []:=List.length_eq_zero_iff.1 (by omega)
  subst hd
  have hl0:l = []:=by
   apply Classical.byContradiction
   intro h
   have:=M.val_pos hr.tr h
   rw [← hv] at this
   simp [D.val] at this
  have hm:=hr.zero hl0
  have hs0:=hrd.zero rfl
  subst hm hs0
  refine (Digits_nil ao cap w).mono ?_
  rintro e w' ⟨hkk,rfl⟩
  exact ⟨hkk,[48],.inl rfl,by rw [hl0]; rfl,rfl⟩
end D
end Go.Proofs.YtembglnonhlnkaaGreatDoor

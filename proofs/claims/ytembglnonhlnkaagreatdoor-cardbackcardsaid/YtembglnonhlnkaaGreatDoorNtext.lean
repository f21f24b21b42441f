/- num.Text. -/
import Derived.Test.YtembglnonhlnkaaGreatDoorGat
import Derived.Test.YtembglnonhlnkaaGreatDoorGao
import Derived.Test.YtembglnonhlnkaaGreatDoorShelf
import Derived.Lib.AppendIntMem
namespace Go.Proofs.YtembglnonhlnkaaGreatDoor
open Go.RowKit
namespace Q
def Tab (w : World) : Prop := Lib.TabIs Tryz.prog w "internal/strconv.uint64pow10" .u64 Lib.pow10Tab
theorem Tab.kept {w w':World} (h:Tab w) (k:Kept w w'):Tab w':=Lib.tabBelow_of_tabIs h w' k
theorem kept_grow (w:World) (k:Nat) (os:Array Obj):Kept w (Sort.grow (w.drewN k) os) :=
 ⟨rfl,rfl,rfl,by show w.heap.size≤(w.heap ++ os).size; rw [Array.size_append]; omega,fun j hj => by show (w.heap ++ os)[j]? = w.heap[j]?; rw [Array.getElem?_append_left hj]⟩
theorem rep_zeros (k:Nat):Lib.repeatL [48] k = List.replicate k 48:=by
 induction k with
 | zero => rfl
 | succ k ih => show [48] ++ Lib.repeatL [48] k = _; rw [ih]; rfl
theorem itoa_len (m:Int) (h1:-999999999≤m) (h2:m≤999999999):(Lib.itoa m).length≤10:=by
 rw [itoa_sg,List.length_append]
 have hl:=dec_len (u:=m.natAbs) (k:=9) (by decide) (Nat.lt_of_le_of_lt (show m.natAbs≤999999999 by omega) (by decide))
 have hs:(sg (decide (m < 0))).length≤1:=by unfold sg; split <;> simp
 omega
theorem size_of {s:ByteArray} {L:List UInt8} (h:s.data.toList = L):s.size = L.length:=by rw [← h,Array.length_toList]; rfl
def TextIs (e:Ending) (m x:Int):Prop :=
 (okN m x = false∧e = .returned (.tuple #[.string ⟨#[]⟩,.int .i64 30])) ∨ (okN m x = true∧∃ t:ByteArray,t.data.toList = textOf m x∧e = .returned (.tuple #[.string t,.int .i64 0]))
set_option maxRecDepth 100000 in
set_option maxHeartbeats 8000000 in
theorem text_any (m x:Int) (w:World) (hl:Lett w) (ht:Tab w) :
  Calls Tryz.prog 83 #[.agg #[.int .i64 m,.int .i64 x]] w fun e w' => Kept w w'∧TextIs e m x:=by
 have HL:=hid' (And.intro hl ht)
 clear hl ht
 go_enter Tryz.func83,Tryz.ntmps83
 go_upto_region 1 with fail
 have hK:=(Kept.refl w).alloc (.cells #[.int .i64 m,.int .i64 x] 26)
 have hR:=Row2.alloc 26 w (.int .i64 m) (.int .i64 x)
 generalize w.alloc (.cells #[.int .i64 m,.int .i64 x] 26) = W at hK hR ⊢
 obtain ⟨p1,hp1⟩:∃ p,p = w.heap.size:=⟨_,rfl⟩
 rw [← hp1] at hR ⊢
 have HK:=hid' hK
 have HR:=hid' hR
 obtain ⟨q0,q1,q2,q3⟩:=hR.all
 clear hp1 hK hR
 go_wp2_with fail
 refine (Valid_any m x _).mono ?_
 rintro e w1 ⟨hk1,rfl⟩
 have HK1:=hid' hk1
 clear hk1 q0 q1 q2 q3
 by_cases ho:okN m x = true
 ·
  have hb:-999999999≤m∧m≤999999999∧-18≤x∧x≤9:=by
   rcases okN_iff.1 ho with ⟨rfl,rfl⟩ | ⟨_,h1,h2,_,h4,h5⟩
   ·
    decide
   ·
    exact ⟨h1,h2,h4,h5⟩
  rw [ho]
  have HO:=hid' ho
  clear ho
  obtain ⟨q0,q1,q2,q3⟩:=(HR.out.kept HK1.out).all
  go_wp2_with fail
  refine (Tryz.strconv_FormatInt_10 m (by omega) (by omega) _ (HL.out.2.kept (HK.out.trans HK1.out))).mono ?_
  rintro e w2 ⟨rfl,k,os,rfl⟩
  have HK2:Hid (Kept W (Sort.grow (w1.drewN k) os)):=HK1.out.trans (kept_grow w1 k os)
  generalize Sort.grow (w1.drewN k) os = w2 at HK2 ⊢
  obtain ⟨d,hd⟩:∃ d:ByteArray,d = ⟨(Lib.itoa m).toArray⟩:=⟨_,rfl⟩
  rw [← hd]
  have Hd:Hid (d.data.toList = Lib.itoa m):=by show _ = _; rw [hd]
  have hds:d.size≤10:=by rw [size_of Hd.out]; exact itoa_len m hb.1 hb.2.1
  clear hd q0 q1 q2 q3
  obtain ⟨q0,q1,q2,q3⟩:=(HR.out.kept HK2.out).all
  go_wp2_with fail
  refine (letterBelow_any x _ (HL.out.1.kept (HK.out.trans HK2.out))).mono ?_
  rintro e w3 ⟨hk3,rfl⟩
  have HK3:=hid' (HK2.out.trans hk3)
  clear hk3 q0 q1 q2 q3
  rcases below_cases hb.2.2.2 with ⟨h1,hn⟩ | ⟨nm,y,hn,hm,h2,h3⟩
  ·
   rw [hn]
   have HN:=hid' hn
   clear hn
   show _
   obtain ⟨q0,q1,q2,q3⟩:=(HR.out.kept (HK3.out.alloc (.cells #[.string (fnm none),.int .i64 (fex none)] 139))).all
   simp only [fnm,fex,Option.isSome] at q0 q1 q2 q3 ⊢
   go_wp2_with fail
   refine (Tryz.strconv_Itoa x (by omega) (by omega) _ (HL.out.2.kept (HK.out.trans (HK3.out.alloc _)))).mono ?_
   rintro e w4 ⟨rfl,k4,os4,rfl⟩
   have HK4:Hid (Kept W (Sort.grow ((w3.alloc (.cells #[.string ⟨#[]⟩,.int .i64 0] 139)).drewN k4) os4)):=(HK3.out.alloc _).trans (kept_grow _ k4 os4)
   generalize Sort.grow ((w3.alloc (.cells #[.string ⟨#[]⟩,.int .i64 0] 139)).drewN k4) os4 = w4 at HK4 ⊢
   obtain ⟨z,hz⟩:∃ d:ByteArray,d = ⟨(Lib.itoa x).toArray⟩:=⟨_,rfl⟩
   rw [← hz]
   have Hz:Hid (z.data.toList = Lib.itoa x):=by show _ = _; rw [hz]
   have hzs:z.size≤10:=by rw [size_of Hz.out]; exact itoa_len x (by omega) (by omega)
   clear hz
   go_wp2_with fail
   go_ret2
   exact ⟨HK.out.trans HK4.out,.inr ⟨HO.out,d ++ ⟨#[101]⟩ ++ z,by unfold textOf; rw [HN.out]; simp [ByteArray.data_append,Hd.out,Hz.out],rfl⟩⟩
  ·
   rw [hn]
   have HN:=hid' hn
   have HM:=hid' hm
   clear hn hm
   show _
   simp only [fnm,fex,Option.isSome]
   go_upto_region 7 with fail
   have hK5:=HK3.out.alloc (.cells #[.string ⟨nm.toArray⟩,.int .i64 y] 139)
   have hR5:=Row2.alloc 139 w3 (.string ⟨nm.toArray⟩) (.int .i64 y)
   generalize w3.alloc (.cells #[.string ⟨nm.toArray⟩,.int .i64 y] 139) = W5 at hK5 hR5 ⊢
   obtain ⟨p5,hp5⟩:∃ p,p = w3.heap.size:=⟨_,rfl⟩
   rw [← hp5] at hR5 ⊢
   obtain ⟨c,hc⟩:∃ c:Nat,x - y = (c:Int):=⟨(x - y).toNat,by omega⟩
   have hc2:c≤2:=by omega
   have hwr:IntKind.i64.wrap (x - y) = x - y:=by rw [hc]; exact wrap_small _ (by omega) (by omega)
   have HC:=hid' hc
   have hRep:Hid (∀ V,Calls Tryz.prog 95 #[.string ⟨#[48]⟩,.int .i64 (x - y)] V fun e w' => ∃ z:ByteArray,(z.data.toList = List.replicate c 48∧z.size≤2)∧e = .returned (.string z)∧Kept V w'):=fun V => by
    rw [hc]
    refine (Tryz.strings_Repeat ⟨#[48]⟩ c V (by omega) (by show 1 * c≤_; omega)).mono ?_
    rintro e w' ⟨rfl,hk⟩
    have e1:(⟨(Lib.repeatL (⟨#[48]⟩:ByteArray).data.toList c).toArray⟩:ByteArray).data.toList = List.replicate c 48:=rep_zeros c
    exact ⟨_,⟨e1,by rw [size_of e1,List.length_replicate]; exact hc2⟩,rfl,hk⟩
   clear hc
   have H5:=hid' hR5
   have HK5:=hid' hK5
   have g1:=(HR.out.kept hK5).c1
   have g2:=hR5.c0
   have g3:=hR5.c1
   obtain ⟨nb,hnb⟩:∃ d:ByteArray,d = ⟨nm.toArray⟩:=⟨_,rfl⟩
   rw [← hnb] at g2 H5 hR5 ⊢
   have Hn:Hid (nb.data.toList = nm):=by show _ = _; rw [hnb]
   have hns:nb.size≤3:=by rw [size_of Hn.out]; exact (pow_name HM.out).2.2.2
   clear hp5 hK5 hR5 hnb
   go_region_held3 (fun w' => w'.cell? ⟨p1,1,none⟩ = some (.int .i64 x)∧w'.cell? ⟨p5,0,none⟩ = some (.string nb)∧w'.cell? ⟨p5,1,none⟩ = some (.int .i64 y)) (go_keep) (first | (go_at_call 95; refine (hRep.out _).mono ?_; rintro e w6 ⟨z,hz,rfl,hk6⟩; have K6:=(Kept.refl W5).drew.trans hk6; have g4:=(HR.out.kept (HK5.out.trans K6)).c1; have g5:=(H5.out.kept K6).c0; have g6:=(H5.out.kept K6).c1; have Hz:=hid' hz.1; have hzs:=hz.2; clear hz; have hA:¬ 9223372036854775807 < d.size + z.size:=(by omega); have hB:¬ 9223372036854775807 < d.size + z.size + nb.size:=(by omega)))
   have HK6:=hid' (HK.out.trans (HK5.out.trans K6))
   clear K6 hk6 g4 g5 g6 g1 g2 g3
   go_wp2_with fail
   go_ret2
   exact ⟨HK6.out,.inr ⟨HO.out,d ++ z ++ nb,by unfold textOf; rw [HN.out]; simp [ByteArray.data_append,Hd.out,Hz.out,Hn.out,HC.out],rfl⟩⟩
 ·
  have ho:okN m x = false:=by simpa using ho
  rw [ho]
  have HO:=hid' ho
  clear ho
  go_wp2
  go_ret2
  exact ⟨HK.out.trans HK1.out,.inl ⟨HO.out,rfl⟩⟩
end Q
end Go.Proofs.YtembglnonhlnkaaGreatDoor

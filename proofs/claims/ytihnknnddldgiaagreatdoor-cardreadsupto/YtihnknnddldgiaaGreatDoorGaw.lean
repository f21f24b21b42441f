/- Lemmas. -/
import Derived.Test.YtihnknnddldgiaaGreatDoorGat
import Derived.Lib.Bytealg
import Derived.Deep.QuietTactic
namespace Go.Proofs.YtihnknnddldgiaaGreatDoor
open Go.RowKit
namespace V
open Q (hid')
set_option maxRecDepth 100000 in
set_option maxHeartbeats 4000000 in
theorem slIndex_any (s:ByteArray) (c:Int) (w:World):Calls Tryz.prog 74 #[.string s,.int .u8 c] w fun e w' => w' = w/\e = .returned (.int .i64 (Lib.indexByte s.data.toList c.toNat.toUInt8)):=by
 go_enter Tryz.func74,Tryz.ntmps74
 go_wp2
 rw [run_callFunc_extern Tryz.func105 (by kernel_rfl) (by kernel_rfl) (by kernel_rfl) (e:=Extern.BytealgIndexByte.indexByte) (by kernel_rfl),Lib.run_indexByteString]
 simp only [Result.andThen]
 rw [Oper.upon_value]
 go_wp2
 go_ret
 exact ⟨rfl,rfl⟩
set_option maxHeartbeats 4000000 in
theorem index_any (s:ByteArray) (c:Int) (w:World):Calls Tryz.prog 39 #[.string s,.int .u8 c] w fun e w' => w' = w/\e = .returned (.int .i64 (Lib.indexByte s.data.toList c.toNat.toUInt8)):=by
 go_enter Tryz.func39,Tryz.ntmps39
 go_wp2_with fail
 refine (slIndex_any _ _ _).mono ?_
 rintro e w' ⟨rfl,rfl⟩
 go_wp2_with fail
 go_ret
 exact ⟨rfl,rfl⟩
set_option maxHeartbeats 4000000 in
theorem among_any (c:Int) (s:ByteArray) (w:World):Calls Tryz.prog 18 #[.int .u8 c,.string s] w fun e w' => w' = w/\e = .returned (.bool (decide (0<=Lib.indexByte s.data.toList c.toNat.toUInt8))):=by
 obtain ⟨z,hz⟩:∃ z,z = Lib.indexByte s.data.toList c.toNat.toUInt8:=⟨_,rfl⟩
 rw [<- hz]
 have HZ:=hid' hz
 clear hz
 go_enter Tryz.func18,Tryz.ntmps18
 go_wp2_with fail
 refine (index_any _ _ _).mono ?_
 rintro e w' ⟨rfl,rfl⟩
 rw [<- HZ.out]
 go_wp2_with fail
 go_ret
 exact ⟨rfl,rfl⟩
open Q (hid')
def kindsL:List UInt8:=[114,99,108,118,105,101,103,102,104,116,100,115,120]
def devB (l:List UInt8):Bool:=okName l && decide (0<=Lib.indexByte kindsL (l.getD 0 0))
set_option maxRecDepth 100000 in
set_option maxHeartbeats 4000000 in
theorem cdev_any (s:ByteArray) (w:World) (hs:s.size<=9223372036854775807):Calls Tryz.prog 14 #[.string s] w fun e w' => w' = w/\e = .returned (.bool (devB s.data.toList)):=by
 have hl:s.data.toList.length = s.size:=by rw [Array.length_toList]; rfl
 obtain ⟨r,hr⟩:∃ r,r = devB s.data.toList:=⟨_,rfl⟩
 rw [<- hr]
 unfold devB at hr
 obtain ⟨ok,hok⟩:∃ ok,ok = okName s.data.toList:=⟨_,rfl⟩
 rw [<- hok] at hr
 have HOK:=hid' hok
 clear hok
 cases ok
 ·
  have HR:=hid' hr
  clear hr hl
  go_enter Tryz.func14,Tryz.ntmps14
  go_wp2_with fail
  refine (cname_any _ _ hs).mono ?_
  rintro e w' ⟨rfl,rfl⟩
  rw [<- HOK.out]
  go_wp2_with fail
  go_ret
  exact ⟨rfl,by rw [HR.out]; rfl⟩
 ·
  have h0:0 < s.size:=by
   have:=HOK.out
   unfold okName at this
   have h2:=(Bool.and_eq_true _ _ ▸ this.symm).1
   have h3:=of_decide_eq_true h2
   omega
  have hg:s.data.toList.getD 0 0 = s[0]:=by rw [List.getD_eq_getElem?_getD,bl_at' s 0 h0]; rfl
  rw [hg,Bool.true_and] at hr
  have HR:=hid' hr
  have h0':(0:Int) < (s.size:Int):=by omega
  clear hr hl hg
  go_enter Tryz.func14,Tryz.ntmps14
  go_wp2_with fail
  refine (cname_any _ _ hs).mono ?_
  rintro e w' ⟨rfl,rfl⟩
  rw [<- HOK.out]
  go_wp2_with fail
  refine (among_any _ _ _).mono ?_
  rintro e w' ⟨rfl,rfl⟩
  have HE:=hid' (show decide ((0:Int)<=Lib.indexByte (⟨#[114,99,108,118,105,101,103,102,104,116,100,115,120]⟩:ByteArray).data.toList ((s[0].toNat:Int)).toNat.toUInt8) = r by
   rw [HR.out,Int.toNat_natCast]
   congr 3
   simp)
  rw [HE.out]
  go_wp2_with fail
  go_ret
  exact ⟨rfl,rfl⟩
open Q (hid')
theorem ib_mem (c:UInt8):∀ l:List UInt8,0<=Lib.indexByte l c ↔ c ∈ l
 | [] => by simp [Lib.indexByte]
 | b :: l => by
  have ih:=ib_mem c l
  have hg:=Lib.indexByte_ge l c
  unfold Lib.indexByte
  by_cases h:b = c
  ·
   subst h; simp
  ·
   have h':¬ c = b:=fun e => h e.symm
   simp only [beq_iff_eq,h,if_false,List.mem_cons,h',false_or,<- ih]
   split <;> omega
set_option maxRecDepth 100000 in
set_option maxHeartbeats 4000000 in
theorem rdev_any (s:ByteArray) (w:World) (hs:s.size<=9223372036854775807):Calls Tryz.prog 20 #[.string s] w fun e w' => Kept w w'/\e = .returned (.bool (devB s.data.toList)):=by
 obtain ⟨r,hr⟩:∃ r,r = devB s.data.toList:=⟨_,rfl⟩
 rw [<- hr]
 unfold devB at hr
 obtain ⟨ok,hok⟩:∃ ok,ok = okName s.data.toList:=⟨_,rfl⟩
 rw [<- hok] at hr
 have HOK:=hid' hok
 clear hok
 cases ok
 ·
  have HR:=hid' hr
  clear hr
  go_enter Tryz.func20,Tryz.ntmps20
  go_wp2_with fail
  refine (rname_any _ _ hs).mono ?_
  rintro e w' ⟨rfl,rfl⟩
  rw [<- HOK.out]
  go_wp2_with fail
  go_ret
  exact ⟨Kept.refl _,by rw [HR.out]; rfl⟩
 ·
  have h0:0 < s.size:=by
   have hl:s.data.toList.length = s.size:=by rw [Array.length_toList]; rfl
   have:=HOK.out
   unfold okName at this
   have h2:=(Bool.and_eq_true _ _ ▸ this.symm).1
   have h3:=of_decide_eq_true h2
   omega
  have hg:s.data.toList.getD 0 0 = s[0]:=by rw [List.getD_eq_getElem?_getD,bl_at' s 0 h0]; rfl
  rw [hg,Bool.true_and] at hr
  have HR:=hid' (show r = decide (s[0] ∈ kindsL) by rw [hr]; exact decide_eq_decide.2 (ib_mem _ _))
  have h0':(0:Int) < (s.size:Int):=by omega
  obtain ⟨K,hKd⟩:∃ K:ByteArray,K = ⟨#[114,99,108,118,105,101,103,102,104,116,100,115,120]⟩:=⟨_,rfl⟩
  clear hr hg
  go_enter Tryz.func20,Tryz.ntmps20
  go_wp2_with fail
  refine (rname_any _ _ hs).mono ?_
  rintro e w' ⟨rfl,rfl⟩
  rw [<- HOK.out]
  go_wp2_with fail
  go_loopw [4] (fun vi wr => ∃ j:Nat,j<=13/\vi = .int .i64 (j:Int)/\Hid (Kept w' wr/\∀ i,i < j->¬ kindsL.getD i 0 = s[0])) (fun vi _ => 13 - (intOf vi).toNat)
  case atStart => exact ⟨0,Nat.zero_le _,rfl,Kept.refl _,fun i hi => absurd hi (Nat.not_lt_zero _)⟩
  case round =>
   obtain ⟨j,hj,rfl,H⟩:=hrel
   clear hKd
   by_cases hlt:j < 13
   ·
    rcases (show j = 0 ∨ j = 1 ∨ j = 2 ∨ j = 3 ∨ j = 4 ∨ j = 5 ∨ j = 6 ∨ j = 7 ∨ j = 8 ∨ j = 9 ∨ j = 10 ∨ j = 11 ∨ j = 12 by omega) with rfl | rfl | rfl | rfl | rfl | rfl | rfl | rfl | rfl | rfl | rfl | rfl | rfl
    ·
     have e0:kindsL.getD 0 0 = 114:=rfl
     have ek:((⟨#[114,99,108,118,105,101,103,102,104,116,100,115,120]⟩:ByteArray)[0]'(by decide)).toNat = 114:=rfl
     by_cases e:(s[0].toNat:Int) = 114
     ·
      have eb:((s[0].toNat:Int) == 114) = true:=by simpa using e
      have HE:=hid' (show r = true by
       rw [HR.out,show s[0] = 114 from UInt8.toNat_inj.1 (by have:(114:UInt8).toNat = 114:=rfl; omega)]
       decide)
      have en:s[0].toNat = 114:=by omega
      clear e0
      go_wp2_with fail
      go_quiet (fail)
      go_wp2_with fail
      go_ret
      exact ⟨H.out.1.drewN _,by rw [HE.out]; rfl⟩
     ·
      have eb:((s[0].toNat:Int) == 114) = false:=by simpa using e
      have HN:=hid' (show ∀ i,i < 0 + 1->¬ kindsL.getD i 0 = s[0] from fun i hi => by
       by_cases ei:i = 0
       ·
        subst ei
        intro h
        rw [e0] at h
        exact e (by rw [<- h]; rfl)
       ·
        exact H.out.2 i (by omega))
      have en:¬ s[0].toNat = 114:=by omega
      have en2:(s[0].toNat == 114) = false:=by simpa using en
      clear e0
      go_wp2_with fail
      go_quiet (fail)
      go_wp2_with fail
      go_roundw
      case rel => exact ⟨0 + 1,by omega,by go_num,H.out.1.drewN _,HN.out⟩
      case measure => show 13 - (((0:Nat):Int) + 1).toNat < 13 - ((0:Nat):Int).toNat; omega
    ·
     have e0:kindsL.getD 1 0 = 99:=rfl
     have ek:((⟨#[114,99,108,118,105,101,103,102,104,116,100,115,120]⟩:ByteArray)[1]'(by decide)).toNat = 99:=rfl
     by_cases e:(s[0].toNat:Int) = 99
     ·
      have eb:((s[0].toNat:Int) == 99) = true:=by simpa using e
      have HE:=hid' (show r = true by
       rw [HR.out,show s[0] = 99 from UInt8.toNat_inj.1 (by have:(99:UInt8).toNat = 99:=rfl; omega)]
       decide)
      have en:s[0].toNat = 99:=by omega
      clear e0
      go_wp2_with fail
      go_quiet (fail)
      go_wp2_with fail
      go_ret
      exact ⟨H.out.1.drewN _,by rw [HE.out]; rfl⟩
     ·
      have eb:((s[0].toNat:Int) == 99) = false:=by simpa using e
      have HN:=hid' (show ∀ i,i < 1 + 1->¬ kindsL.getD i 0 = s[0] from fun i hi => by
       by_cases ei:i = 1
       ·
        subst ei
        intro h
        rw [e0] at h
        exact e (by rw [<- h]; rfl)
       ·
        exact H.out.2 i (by omega))
      have en:¬ s[0].toNat = 99:=by omega
      have en2:(s[0].toNat == 99) = false:=by simpa using en
      clear e0
      go_wp2_with fail
      go_quiet (fail)
      go_wp2_with fail
      go_roundw
      case rel => exact ⟨1 + 1,by omega,by go_num,H.out.1.drewN _,HN.out⟩
      case measure => show 13 - (((1:Nat):Int) + 1).toNat < 13 - ((1:Nat):Int).toNat; omega
    ·
     have e0:kindsL.getD 2 0 = 108:=rfl
     have ek:((⟨#[114,99,108,118,105,101,103,102,104,116,100,115,120]⟩:ByteArray)[2]'(by decide)).toNat = 108:=rfl
     by_cases e:(s[0].toNat:Int) = 108
     ·
      have eb:((s[0].toNat:Int) == 108) = true:=by simpa using e
      have HE:=hid' (show r = true by
       rw [HR.out,show s[0] = 108 from UInt8.toNat_inj.1 (by have:(108:UInt8).toNat = 108:=rfl; omega)]
       decide)
      have en:s[0].toNat = 108:=by omega
      clear e0
      go_wp2_with fail
      go_quiet (fail)
      go_wp2_with fail
      go_ret
      exact ⟨H.out.1.drewN _,by rw [HE.out]; rfl⟩
     ·
      have eb:((s[0].toNat:Int) == 108) = false:=by simpa using e
      have HN:=hid' (show ∀ i,i < 2 + 1->¬ kindsL.getD i 0 = s[0] from fun i hi => by
       by_cases ei:i = 2
       ·
        subst ei
        intro h
        rw [e0] at h
        exact e (by rw [<- h]; rfl)
       ·
        exact H.out.2 i (by omega))
      have en:¬ s[0].toNat = 108:=by omega
      have en2:(s[0].toNat == 108) = false:=by simpa using en
      clear e0
      go_wp2_with fail
      go_quiet (fail)
      go_wp2_with fail
      go_roundw
      case rel => exact ⟨2 + 1,by omega,by go_num,H.out.1.drewN _,HN.out⟩
      case measure => show 13 - (((2:Nat):Int) + 1).toNat < 13 - ((2:Nat):Int).toNat; omega
    ·
     have e0:kindsL.getD 3 0 = 118:=rfl
     have ek:((⟨#[114,99,108,118,105,101,103,102,104,116,100,115,120]⟩:ByteArray)[3]'(by decide)).toNat = 118:=rfl
     by_cases e:(s[0].toNat:Int) = 118
     ·
      have eb:((s[0].toNat:Int) == 118) = true:=by simpa using e
      have HE:=hid' (show r = true by
       rw [HR.out,show s[0] = 118 from UInt8.toNat_inj.1 (by have:(118:UInt8).toNat = 118:=rfl; omega)]
       decide)
      have en:s[0].toNat = 118:=by omega
      clear e0
      go_wp2_with fail
      go_quiet (fail)
      go_wp2_with fail
      go_ret
      exact ⟨H.out.1.drewN _,by rw [HE.out]; rfl⟩
     ·
      have eb:((s[0].toNat:Int) == 118) = false:=by simpa using e
      have HN:=hid' (show ∀ i,i < 3 + 1->¬ kindsL.getD i 0 = s[0] from fun i hi => by
       by_cases ei:i = 3
       ·
        subst ei
        intro h
        rw [e0] at h
        exact e (by rw [<- h]; rfl)
       ·
        exact H.out.2 i (by omega))
      have en:¬ s[0].toNat = 118:=by omega
      have en2:(s[0].toNat == 118) = false:=by simpa using en
      clear e0
      go_wp2_with fail
      go_quiet (fail)
      go_wp2_with fail
      go_roundw
      case rel => exact ⟨3 + 1,by omega,by go_num,H.out.1.drewN _,HN.out⟩
      case measure => show 13 - (((3:Nat):Int) + 1).toNat < 13 - ((3:Nat):Int).toNat; omega
    ·
     have e0:kindsL.getD 4 0 = 105:=rfl
     have ek:((⟨#[114,99,108,118,105,101,103,102,104,116,100,115,120]⟩:ByteArray)[4]'(by decide)).toNat = 105:=rfl
     by_cases e:(s[0].toNat:Int) = 105
     ·
      have eb:((s[0].toNat:Int) == 105) = true:=by simpa using e
      have HE:=hid' (show r = true by
       rw [HR.out,show s[0] = 105 from UInt8.toNat_inj.1 (by have:(105:UInt8).toNat = 105:=rfl; omega)]
       decide)
      have en:s[0].toNat = 105:=by omega
      clear e0
      go_wp2_with fail
      go_quiet (fail)
      go_wp2_with fail
      go_ret
      exact ⟨H.out.1.drewN _,by rw [HE.out]; rfl⟩
     ·
      have eb:((s[0].toNat:Int) == 105) = false:=by simpa using e
      have HN:=hid' (show ∀ i,i < 4 + 1->¬ kindsL.getD i 0 = s[0] from fun i hi => by
       by_cases ei:i = 4
       ·
        subst ei
        intro h
        rw [e0] at h
        exact e (by rw [<- h]; rfl)
       ·
        exact H.out.2 i (by omega))
      have en:¬ s[0].toNat = 105:=by omega
      have en2:(s[0].toNat == 105) = false:=by simpa using en
      clear e0
      go_wp2_with fail
      go_quiet (fail)
      go_wp2_with fail
      go_roundw
      case rel => exact ⟨4 + 1,by omega,by go_num,H.out.1.drewN _,HN.out⟩
      case measure => show 13 - (((4:Nat):Int) + 1).toNat < 13 - ((4:Nat):Int).toNat; omega
    ·
     have e0:kindsL.getD 5 0 = 101:=rfl
     have ek:((⟨#[114,99,108,118,105,101,103,102,104,116,100,115,120]⟩:ByteArray)[5]'(by decide)).toNat = 101:=rfl
     by_cases e:(s[0].toNat:Int) = 101
     ·
      have eb:((s[0].toNat:Int) == 101) = true:=by simpa using e
      have HE:=hid' (show r = true by
       rw [HR.out,show s[0] = 101 from UInt8.toNat_inj.1 (by have:(101:UInt8).toNat = 101:=rfl; omega)]
       decide)
      have en:s[0].toNat = 101:=by omega
      clear e0
      go_wp2_with fail
      go_quiet (fail)
      go_wp2_with fail
      go_ret
      exact ⟨H.out.1.drewN _,by rw [HE.out]; rfl⟩
     ·
      have eb:((s[0].toNat:Int) == 101) = false:=by simpa using e
      have HN:=hid' (show ∀ i,i < 5 + 1->¬ kindsL.getD i 0 = s[0] from fun i hi => by
       by_cases ei:i = 5
       ·
        subst ei
        intro h
        rw [e0] at h
        exact e (by rw [<- h]; rfl)
       ·
        exact H.out.2 i (by omega))
      have en:¬ s[0].toNat = 101:=by omega
      have en2:(s[0].toNat == 101) = false:=by simpa using en
      clear e0
      go_wp2_with fail
      go_quiet (fail)
      go_wp2_with fail
      go_roundw
      case rel => exact ⟨5 + 1,by omega,by go_num,H.out.1.drewN _,HN.out⟩
      case measure => show 13 - (((5:Nat):Int) + 1).toNat < 13 - ((5:Nat):Int).toNat; omega
    ·
     have e0:kindsL.getD 6 0 = 103:=rfl
     have ek:((⟨#[114,99,108,118,105,101,103,102,104,116,100,115,120]⟩:ByteArray)[6]'(by decide)).toNat = 103:=rfl
     by_cases e:(s[0].toNat:Int) = 103
     ·
      have eb:((s[0].toNat:Int) == 103) = true:=by simpa using e
      have HE:=hid' (show r = true by
       rw [HR.out,show s[0] = 103 from UInt8.toNat_inj.1 (by have:(103:UInt8).toNat = 103:=rfl; omega)]
       decide)
      have en:s[0].toNat = 103:=by omega
      clear e0
      go_wp2_with fail
      go_quiet (fail)
      go_wp2_with fail
      go_ret
      exact ⟨H.out.1.drewN _,by rw [HE.out]; rfl⟩
     ·
      have eb:((s[0].toNat:Int) == 103) = false:=by simpa using e
      have HN:=hid' (show ∀ i,i < 6 + 1->¬ kindsL.getD i 0 = s[0] from fun i hi => by
       by_cases ei:i = 6
       ·
        subst ei
        intro h
        rw [e0] at h
        exact e (by rw [<- h]; rfl)
       ·
        exact H.out.2 i (by omega))
      have en:¬ s[0].toNat = 103:=by omega
      have en2:(s[0].toNat == 103) = false:=by simpa using en
      clear e0
      go_wp2_with fail
      go_quiet (fail)
      go_wp2_with fail
      go_roundw
      case rel => exact ⟨6 + 1,by omega,by go_num,H.out.1.drewN _,HN.out⟩
      case measure => show 13 - (((6:Nat):Int) + 1).toNat < 13 - ((6:Nat):Int).toNat; omega
    ·
     have e0:kindsL.getD 7 0 = 102:=rfl
     have ek:((⟨#[114,99,108,118,105,101,103,102,104,116,100,115,120]⟩:ByteArray)[7]'(by decide)).toNat = 102:=rfl
     by_cases e:(s[0].toNat:Int) = 102
     ·
      have eb:((s[0].toNat:Int) == 102) = true:=by simpa using e
      have HE:=hid' (show r = true by
       rw [HR.out,show s[0] = 102 from UInt8.toNat_inj.1 (by have:(102:UInt8).toNat = 102:=rfl; omega)]
       decide)
      have en:s[0].toNat = 102:=by omega
      clear e0
      go_wp2_with fail
      go_quiet (fail)
      go_wp2_with fail
      go_ret
      exact ⟨H.out.1.drewN _,by rw [HE.out]; rfl⟩
     ·
      have eb:((s[0].toNat:Int) == 102) = false:=by simpa using e
      have HN:=hid' (show ∀ i,i < 7 + 1->¬ kindsL.getD i 0 = s[0] from fun i hi => by
       by_cases ei:i = 7
       ·
        subst ei
        intro h
        rw [e0] at h
        exact e (by rw [<- h]; rfl)
       ·
        exact H.out.2 i (by omega))
      have en:¬ s[0].toNat = 102:=by omega
      have en2:(s[0].toNat == 102) = false:=by simpa using en
      clear e0
      go_wp2_with fail
      go_quiet (fail)
      go_wp2_with fail
      go_roundw
      case rel => exact ⟨7 + 1,by omega,by go_num,H.out.1.drewN _,HN.out⟩
      case measure => show 13 - (((7:Nat):Int) + 1).toNat < 13 - ((7:Nat):Int).toNat; omega
    ·
     have e0:kindsL.getD 8 0 = 104:=rfl
     have ek:((⟨#[114,99,108,118,105,101,103,102,104,116,100,115,120]⟩:ByteArray)[8]'(by decide)).toNat = 104:=rfl
     by_cases e:(s[0].toNat:Int) = 104
     ·
      have eb:((s[0].toNat:Int) == 104) = true:=by simpa using e
      have HE:=hid' (show r = true by
       rw [HR.out,show s[0] = 104 from UInt8.toNat_inj.1 (by have:(104:UInt8).toNat = 104:=rfl; omega)]
       decide)
      have en:s[0].toNat = 104:=by omega
      clear e0
      go_wp2_with fail
      go_quiet (fail)
      go_wp2_with fail
      go_ret
      exact ⟨H.out.1.drewN _,by rw [HE.out]; rfl⟩
     ·
      have eb:((s[0].toNat:Int) == 104) = false:=by simpa using e
      have HN:=hid' (show ∀ i,i < 8 + 1->¬ kindsL.getD i 0 = s[0] from fun i hi => by
       by_cases ei:i = 8
       ·
        subst ei
        intro h
        rw [e0] at h
        exact e (by rw [<- h]; rfl)
       ·
        exact H.out.2 i (by omega))
      have en:¬ s[0].toNat = 104:=by omega
      have en2:(s[0].toNat == 104) = false:=by simpa using en
      clear e0
      go_wp2_with fail
      go_quiet (fail)
      go_wp2_with fail
      go_roundw
      case rel => exact ⟨8 + 1,by omega,by go_num,H.out.1.drewN _,HN.out⟩
      case measure => show 13 - (((8:Nat):Int) + 1).toNat < 13 - ((8:Nat):Int).toNat; omega
    ·
     have e0:kindsL.getD 9 0 = 116:=rfl
     have ek:((⟨#[114,99,108,118,105,101,103,102,104,116,100,115,120]⟩:ByteArray)[9]'(by decide)).toNat = 116:=rfl
     by_cases e:(s[0].toNat:Int) = 116
     ·
      have eb:((s[0].toNat:Int) == 116) = true:=by simpa using e
      have HE:=hid' (show r = true by
       rw [HR.out,show s[0] = 116 from UInt8.toNat_inj.1 (by have:(116:UInt8).toNat = 116:=rfl; omega)]
       decide)
      have en:s[0].toNat = 116:=by omega
      clear e0
      go_wp2_with fail
      go_quiet (fail)
      go_wp2_with fail
      go_ret
      exact ⟨H.out.1.drewN _,by rw [HE.out]; rfl⟩
     ·
      have eb:((s[0].toNat:Int) == 116) = false:=by simpa using e
      have HN:=hid' (show ∀ i,i < 9 + 1->¬ kindsL.getD i 0 = s[0] from fun i hi => by
       by_cases ei:i = 9
       ·
        subst ei
        intro h
        rw [e0] at h
        exact e (by rw [<- h]; rfl)
       ·
        exact H.out.2 i (by omega))
      have en:¬ s[0].toNat = 116:=by omega
      have en2:(s[0].toNat == 116) = false:=by simpa using en
      clear e0
      go_wp2_with fail
      go_quiet (fail)
      go_wp2_with fail
      go_roundw
      case rel => exact ⟨9 + 1,by omega,by go_num,H.out.1.drewN _,HN.out⟩
      case measure => show 13 - (((9:Nat):Int) + 1).toNat < 13 - ((9:Nat):Int).toNat; omega
    ·
     have e0:kindsL.getD 10 0 = 100:=rfl
     have ek:((⟨#[114,99,108,118,105,101,103,102,104,116,100,115,120]⟩:ByteArray)[10]'(by decide)).toNat = 100:=rfl
     by_cases e:(s[0].toNat:Int) = 100
     ·
      have eb:((s[0].toNat:Int) == 100) = true:=by simpa using e
      have HE:=hid' (show r = true by
       rw [HR.out,show s[0] = 100 from UInt8.toNat_inj.1 (by have:(100:UInt8).toNat = 100:=rfl; omega)]
       decide)
      have en:s[0].toNat = 100:=by omega
      clear e0
      go_wp2_with fail
      go_quiet (fail)
      go_wp2_with fail
      go_ret
      exact ⟨H.out.1.drewN _,by rw [HE.out]; rfl⟩
     ·
      have eb:((s[0].toNat:Int) == 100) = false:=by simpa using e
      have HN:=hid' (show ∀ i,i < 10 + 1->¬ kindsL.getD i 0 = s[0] from fun i hi => by
       by_cases ei:i = 10
       ·
        subst ei
        intro h
        rw [e0] at h
        exact e (by rw [<- h]; rfl)
       ·
        exact H.out.2 i (by omega))
      have en:¬ s[0].toNat = 100:=by omega
      have en2:(s[0].toNat == 100) = false:=by simpa using en
      clear e0
      go_wp2_with fail
      go_quiet (fail)
      go_wp2_with fail
      go_roundw
      case rel => exact ⟨10 + 1,by omega,by go_num,H.out.1.drewN _,HN.out⟩
      case measure => show 13 - (((10:Nat):Int) + 1).toNat < 13 - ((10:Nat):Int).toNat; omega
    ·
     have e0:kindsL.getD 11 0 = 115:=rfl
     have ek:((⟨#[114,99,108,118,105,101,103,102,104,116,100,115,120]⟩:ByteArray)[11]'(by decide)).toNat = 115:=rfl
     by_cases e:(s[0].toNat:Int) = 115
     ·
      have eb:((s[0].toNat:Int) == 115) = true:=by simpa using e
      have HE:=hid' (show r = true by
       rw [HR.out,show s[0] = 115 from UInt8.toNat_inj.1 (by have:(115:UInt8).toNat = 115:=rfl; omega)]
       decide)
      have en:s[0].toNat = 115:=by omega
      clear e0
      go_wp2_with fail
      go_quiet (fail)
      go_wp2_with fail
      go_ret
      exact ⟨H.out.1.drewN _,by rw [HE.out]; rfl⟩
     ·
      have eb:((s[0].toNat:Int) == 115) = false:=by simpa using e
      have HN:=hid' (show ∀ i,i < 11 + 1->¬ kindsL.getD i 0 = s[0] from fun i hi => by
       by_cases ei:i = 11
       ·
        subst ei
        intro h
        rw [e0] at h
        exact e (by rw [<- h]; rfl)
       ·
        exact H.out.2 i (by omega))
      have en:¬ s[0].toNat = 115:=by omega
      have en2:(s[0].toNat == 115) = false:=by simpa using en
      clear e0
      go_wp2_with fail
      go_quiet (fail)
      go_wp2_with fail
      go_roundw
      case rel => exact ⟨11 + 1,by omega,by go_num,H.out.1.drewN _,HN.out⟩
      case measure => show 13 - (((11:Nat):Int) + 1).toNat < 13 - ((11:Nat):Int).toNat; omega
    ·
     have e0:kindsL.getD 12 0 = 120:=rfl
     have ek:((⟨#[114,99,108,118,105,101,103,102,104,116,100,115,120]⟩:ByteArray)[12]'(by decide)).toNat = 120:=rfl
     by_cases e:(s[0].toNat:Int) = 120
     ·
      have eb:((s[0].toNat:Int) == 120) = true:=by simpa using e
      have HE:=hid' (show r = true by
       rw [HR.out,show s[0] = 120 from UInt8.toNat_inj.1 (by have:(120:UInt8).toNat = 120:=rfl; omega)]
       decide)
      have en:s[0].toNat = 120:=by omega
      clear e0
      go_wp2_with fail
      go_quiet (fail)
      go_wp2_with fail
      go_ret
      exact ⟨H.out.1.drewN _,by rw [HE.out]; rfl⟩
     ·
      have eb:((s[0].toNat:Int) == 120) = false:=by simpa using e
      have HN:=hid' (show ∀ i,i < 12 + 1->¬ kindsL.getD i 0 = s[0] from fun i hi => by
       by_cases ei:i = 12
       ·
        subst ei
        intro h
        rw [e0] at h
        exact e (by rw [<- h]; rfl)
       ·
        exact H.out.2 i (by omega))
      have en:¬ s[0].toNat = 120:=by omega
      have en2:(s[0].toNat == 120) = false:=by simpa using en
      clear e0
      go_wp2_with fail
      go_quiet (fail)
      go_wp2_with fail
      go_roundw
      case rel => exact ⟨12 + 1,by omega,by go_num,H.out.1.drewN _,HN.out⟩
      case measure => show 13 - (((12:Nat):Int) + 1).toNat < 13 - ((12:Nat):Int).toNat; omega
   ·
    obtain rfl:j = 13:=by omega
    have HE:=hid' (show r = false by
     rw [HR.out]
     refine decide_eq_false (fun hm => ?_)
     obtain ⟨i,hi,he⟩:=List.getElem_of_mem hm
     refine H.out.2 i hi ?_
     rw [List.getD_eq_getElem?_getD,List.getElem?_eq_getElem hi,he]
     rfl)
    go_wp2_with fail
    go_ret
    exact ⟨H.out.1,by rw [HE.out]; rfl⟩
end V
end Go.Proofs.YtihnknnddldgiaaGreatDoor

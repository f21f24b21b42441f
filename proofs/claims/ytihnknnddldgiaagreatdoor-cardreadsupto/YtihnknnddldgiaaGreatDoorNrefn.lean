/- shuntref03.Parse of a text with a sign. -/
import Derived.Test.YtihnknnddldgiaaGreatDoorGbe
namespace Go.Proofs.YtihnknnddldgiaaGreatDoor
open Go.RowKit
namespace Q
set_option maxRecDepth 100000 in
set_option maxHeartbeats 32000000 in
theorem rparse_neg (s:ByteArray) (w:World) (hs32:s.size<=32) (hneg:hd 45 s.data.toList = true) :
  Calls Tryz.prog 23 #[.string s] w fun e w' => Kept w w'/\e = numE (parseOf s.data.toList):=by
 have HNB:=hid' hneg
 go_enter Tryz.func23,Tryz.ntmps23
 have hgt:¬ (32:Int) < (s.size:Int):=by omega
 have hsz:0 < s.size:=by
  rcases Nat.eq_zero_or_pos s.size with h | h
  ·
   rw [List.eq_nil_of_length_eq_zero (show s.data.toList.length = 0 by rw [Array.length_toList]; exact h)] at hneg; cases hneg
  ·
   exact h
 have hszi:(0:Int) < (s.size:Int):=by omega
 have h45:((s[0].toNat:Int) == 45) = true:=by
  rw [hd_at s 45 hsz] at hneg
  have:=of_decide_eq_true hneg
  simpa using congrArg (fun n:Nat => (n:Int)) this
 clear hneg
 go_upto_region 9 with fail
 have hK:=((Kept.refl w).alloc (.cells #[.int .i64 0,.int .i64 0] 26)).alloc (.cells #[.bool false,.slice none 0 0] 76)
 have hR2:=(Row2.alloc 26 w (.int .i64 0) (.int .i64 0)).kept ((Kept.refl _).alloc (.cells #[.bool false,.slice none 0 0] 76))
 have hR7:=Row2.alloc 76 (w.alloc (.cells #[.int .i64 0,.int .i64 0] 26)) (.bool false) (.slice none 0 0)
 rw [World.size_alloc] at hR7
 generalize (w.alloc (.cells #[.int .i64 0,.int .i64 0] 26)).alloc (.cells #[.bool false,.slice none 0 0] 76) = W at hK hR2 hR7 ⊢
 obtain ⟨p7,hp7⟩:∃ p,p = w.heap.size + 1:=⟨_,rfl⟩
 rw [<- hp7] at hR7 ⊢
 obtain ⟨p2,hp2⟩:∃ p,p = w.heap.size:=⟨_,rfl⟩
 rw [<- hp2] at hR2 ⊢
 have HP2:Hid (w.heap.size<=p2):=by show _<=_; omega
 have hne:=hid' (show w.heap.size<=p7/\¬ p2 = p7 by omega)
 have hK:=hid' hK
 have hR2:=hid' hR2
 have hR7:=hid' hR7
 clear hp7 hp2
 go_wp2_with fail
 refine (D.small_num 10 _ (by omega) (by omega)).mono ?_
 rintro e w1 ⟨hk1,aot,nt,capt,rfl,hN1,hnt⟩
 go_upto_region 10 with fail
 have hR8:=Row2.alloc 76 w1 (.bool false) (.slice aot nt capt)
 have hKa:=(Kept.refl w1).alloc (.cells #[.bool false,.slice aot nt capt] 76)
 have HW0:Hid (W3 w (w1.alloc (.cells #[.bool false,.slice aot nt capt] 76)) p2 p7 w1.heap.size false none 0 0 0 aot nt capt) :=
  ⟨hK.out.trans (hk1.trans hKa),hR2.out.kept (hk1.trans hKa),hR7.out.kept (hk1.trans hKa),hR8,⟨[],D.Sl.nil _ _ _,⟨D.Bd_nil,.inl rfl,fun _ => rfl⟩,rfl⟩,hN1.kept hKa,hnt,by omega,hne.out.1,hne.out.2,by have:=(hR7.out.kept hk1).lt; omega⟩
 generalize w1.alloc (.cells #[.bool false,.slice aot nt capt] 76) = W1 at HW0 ⊢
 obtain ⟨p8,hp8⟩:∃ p,p = w1.heap.size:=⟨_,rfl⟩
 rw [<- hp8] at HW0 ⊢
 clear hp8 hR8 hKa hR2 hR7 hK hk1 hN1 hnt hne
 go_wp2_with fail
 go_loopw [4,9,10] (fun vi vx vp wr => ∃ (i:Nat) (ex:Int) (sg:Bool) (ao:Option Addr) (k cap:Nat),vi = .int .i64 (i:Int)/\i<=s.size/\vx = .int .i64 ex/\(-32<=ex/\ex<=0)/\((vp = .bool false/\1<=i/\Hid (W3 w wr p2 p7 p8 sg ao k cap (dv (part s.data.toList 1 i)) aot nt capt/\Dig (part s.data.toList 1 i)/\ex = 0)) ∨ ∃ q:Nat,vp = .bool true/\1 < q/\q + 1<=i/\q + 1 < s.size/\Hid (W3 w wr p2 p7 p8 sg ao k cap (dv (part s.data.toList 1 q ++ part s.data.toList (q + 1) i)) aot nt capt/\Dig (part s.data.toList 1 q)/\Dig (part s.data.toList (q + 1) i)/\s.data.toList[q]? = some 46/\(∀ c,s.data.toList[q + 1]? = some c->isd c = true)/\ex = -((i - (q + 1):Nat):Int)))/\k<=3 * i + 3) (fun vi _ _ _ => s.size - (intOf vi).toNat)
 case atStart => exact ⟨1,0,false,none,0,0,rfl,by omega,rfl,by omega,.inl ⟨rfl,Nat.le_refl _,by rw [part_self]; exact HW0.out,by rw [part_self]; exact fun c hc => by simp at hc,rfl⟩,by omega⟩
 case round =>
  obtain ⟨i,ex,sg,ao,k,cap,rfl,hi1,rfl,hex1,hAB,hkb⟩:=hrel
  rcases hAB with ⟨rfl,hi0,HI⟩ | ⟨q,rfl,hq0,hq1,hq2,HI⟩
  ·
   by_cases hlt:i < s.size
   ·
    have hli:(i:Int) < (s.size:Int):=by omega
    by_cases hd:48<=s[i].toNat/\s[i].toNat<=57
    ·
     have hdi:isdI (s[i].toNat:Int) = true:=isdI_yes (by omega) (by omega)
     have h46:((s[i].toNat:Int) == 46) = false:=by simp; omega
     have hw1:IntKind.u8.wrap ((s[i].toNat:Int) - 48) = (s[i].toNat:Int) - 48:=by rw [IntKind.wrap_u8]; omega
     have hw2:IntKind.i64.wrap ((s[i].toNat:Int) - 48) = (s[i].toNat:Int) - 48:=wrap_i64' (by omega) (by omega)
     have hdn:0<=(s[i].toNat:Int) - 48/\(s[i].toNat:Int) - 48 < 65536:=by omega
     have hD':Dig (part s.data.toList 1 (i + 1)):=by
      rw [part_next s 1 i hi0 hlt]
      exact HI.out.2.1.append (fun c hc => by rw [List.mem_singleton] at hc; subst hc; exact hd)
     have hv':((dv (part s.data.toList 1 (i + 1)):Nat):Int) = (dv (part s.data.toList 1 i):Int) * 10 + ((s[i].toNat:Int) - 48):=by rw [part_next s 1 i hi0 hlt,dv_snoc]; omega
     have HD:=hid' (And.intro hD' hv')
     clear hd hD' hv'
     go_wp2_with fail
     refine (isDigit_any _ _).mono ?_
     rintro e w9 ⟨hk9,rfl⟩
     rw [hdi]
     have HW:=hid' (HI.out.1.kept hk9)
     clear hk9
     obtain ⟨a0,a1,a2,a3⟩:=HW.out.r7.all
     obtain ⟨b0,b1,b2,b3⟩:=HW.out.r8.all
     have hne87:=HW.out.ne87
     have hne78:¬ p7 = p8:=fun h => hne87 h.symm
     go_wp2_with fail
     go_region_with (first
      | (go_at_call 51; refine (D.Times_any sg false ao aot k nt cap capt _ _ _ (HW.out.na.kept (Kept.refl _).drew) (HW.out.nten.kept (Kept.refl _).drew) (by have:=HW.out.kb; omega) (by have:=HW.out.ntb; omega)).mono ?_; rintro e wB ⟨hkB,sB,aoB,kB,cB,rfl,nB,lB⟩; have HB:=hid' (And.intro nB lB); have KB:=(Kept.refl w9).drew.trans hkB; obtain ⟨d0,d1,d2,d3⟩:=(HW.out.kept KB).r7.all; obtain ⟨f0,f1,f2,f3⟩:=(HW.out.kept KB).r8.all; clear nB lB hkB)
      | (go_at_call 48; refine (D.small_num _ _ hdn.1 hdn.2).mono ?_; rintro e wC ⟨hkC,aoC,kC,cC,rfl,nC,lC⟩; have HC:=hid' (And.intro nC (And.intro lC (HB.out.1.kept hkC))); have KC:=KB.trans hkC; obtain ⟨g0,g1,g2,g3⟩:=(HW.out.kept KC).r7.all; clear nC lC hkC)
      | (go_at_call 50; refine (D.Plus_any sB false aoB aoC kB kC cB cC _ _ _ HC.out.2.2 HC.out.1 (by have h1:=HB.out.2; have h2:=HW.out.kb; have h3:=HW.out.ntb; omega) (by have:=HC.out.2.1; omega)).mono ?_; rintro e wE ⟨hkE,sE,aoE,kE,cE,rfl,nE,lE⟩; have HE:=hid' (And.intro nE lE); have KE:=KC.trans hkE; obtain ⟨j0,j1,j2,j3⟩:=(HW.out.kept KE).r7.all; clear nE lE hkE))
     all_goals
      have HWE:=hid' (HW.out.kept KE)
      clear KB KC KE
      go_wp2_with fail
      go_roundw
      case rel => exact ⟨i + 1,ex,sE,aoE,kE,cE,by go_num,by omega,rfl,hex1,.inl ⟨rfl,by omega,HWE.out.put (by rw [HD.out.2]; exact HE.out.1) (by have h1:=HE.out.2; have h2:=HB.out.2; have h3:=HC.out.2.1; have h4:=HW.out.ntb; omega),HD.out.1,HI.out.2.2⟩,by have h1:=HE.out.2; have h2:=HB.out.2; have h3:=HC.out.2.1; have h4:=HW.out.ntb; omega⟩
      case measure => show s.size - ((i:Int) + 1).toNat < s.size - (i:Int).toNat; omega
    ·
     have hdi:isdI (s[i].toNat:Int) = false:=isdI_no hd
     have hnd:∀ c,s.data.toList[i]? = some c->isd c = false:=fun c hc => by rw [list_at s i hlt] at hc; cases hc; unfold isd; exact decide_eq_false (by omega)
     by_cases h46:s[i].toNat = 46
     ·
      by_cases hib0:i = 1
      ·
       have h46':((s[i].toNat:Int) == 46) = true:=by simp [h46]
       clear h46
       have HN:=hid' (scan_empty (L:=s.data.toList) (b:=1) (by rw [HNB.out]; rfl) (by rw [<- hib0]; exact hnd))
       have hib:((i:Int) == (1:Int)) = true:=by rw [hib0]; rfl
       have hgt:¬ (1:Int) < (i:Int):=by omega
       clear hib0
       obtain ⟨r0,r1,r2,r3⟩:=HI.out.1.r2.all
       go_wp2_with fail
       refine (isDigit_any _ _).mono ?_
       rintro e w9 ⟨hk9,rfl⟩
       rw [hdi]
       obtain ⟨r0,r1,r2,r3⟩:=(HI.out.1.kept hk9).r2.all
       go_wp2_with fail
       exact bodyPost_ret (v:=.tuple #[.agg #[.int .i64 0,.int .i64 0],.int .i64 3]) (by simp [results,Tryz.results23,go_sem,r0,r1]) rfl ⟨Kept.put2 (HI.out.1.kept hk9).kp HP2.out _ _,by rw [parseOf_none HN.out]; rfl⟩
      ·
       have h46':((s[i].toNat:Int) == 46) = true:=by simp [h46]
       have hq46:s.data.toList[i]? = some 46:=by rw [list_at s i hlt]; exact congrArg some (UInt8.toNat_inj.1 h46)
       have HQ:=hid' hq46
       have hgtb:(1:Int) < (i:Int):=by omega
       clear h46 hq46
       have hwi:IntKind.i64.wrap ((i:Int) + 1) = (i:Int) + 1:=wrap_i64' (by omega) (by omega)
       by_cases hl2:i + 1 < s.size
       ·
        have hli2:¬ (s.size:Int)<=(i:Int) + 1:=by omega
        by_cases hd2:48<=s[i + 1].toNat/\s[i + 1].toNat<=57
        ·
         have hdi2:isdI (s[i + 1].toNat:Int) = true:=isdI_yes (by omega) (by omega)
         have HD2:Hid (∀ c,s.data.toList[i + 1]? = some c->isd c = true):=fun c hc => by rw [list_at s (i + 1) hl2] at hc; cases hc; exact isd_iff.2 hd2
         clear hd2
         go_wp2_with fail
         refine (isDigit_any _ _).mono ?_
         rintro e w9 ⟨hk9,rfl⟩
         rw [hdi]
         go_wp2_with fail
         refine (isDigit_any _ _).mono ?_
         rintro e wY ⟨hkY,rfl⟩
         rw [hdi2]
         have HWY:=hid' (HI.out.1.kept (hk9.trans hkY))
         clear hk9 hkY
         obtain ⟨r0,r1,r2,r3⟩:=HWY.out.r2.all
         go_wp2_with fail
         go_roundw
         case rel => exact ⟨i + 1,ex,sg,ao,k,cap,by go_num,by omega,rfl,hex1,.inr ⟨i,rfl,by omega,by omega,hl2,by rw [part_self,List.append_nil]; exact HWY.out,HI.out.2.1,by rw [part_self]; exact fun c hc => by simp at hc,HQ.out,HD2.out,by rw [HI.out.2.2]; simp⟩,by omega⟩
         case measure => show s.size - ((i:Int) + 1).toNat < s.size - (i:Int).toNat; omega
        ·
         have hdi2:isdI (s[i + 1].toNat:Int) = false:=isdI_no hd2
         have HN:=hid' (scan_bare (L:=s.data.toList) (b:=1) (q:=i) (by rw [HNB.out]; rfl) hi0 HI.out.2.1 HQ.out (fun c hc => by rw [list_at s (i + 1) hl2] at hc; cases hc; unfold isd; exact decide_eq_false (by omega)))
         clear hd2
         go_wp2_with fail
         refine (isDigit_any _ _).mono ?_
         rintro e w9 ⟨hk9,rfl⟩
         rw [hdi]
         go_wp2_with fail
         refine (isDigit_any _ _).mono ?_
         rintro e wY ⟨hkY,rfl⟩
         rw [hdi2]
         have HWY:=hid' (HI.out.1.kept (hk9.trans hkY))
         clear hk9 hkY
         obtain ⟨r0,r1,r2,r3⟩:=HWY.out.r2.all
         go_wp2_with fail
         exact bodyPost_ret (v:=.tuple #[.agg #[.int .i64 0,.int .i64 0],.int .i64 3]) (by simp [results,Tryz.results23,go_sem,r0,r1]) rfl ⟨Kept.put2 HWY.out.kp HP2.out _ _,by rw [parseOf_none HN.out]; rfl⟩
       ·
        have hli2:(s.size:Int)<=(i:Int) + 1:=by omega
        have HN:=hid' (scan_bare (L:=s.data.toList) (b:=1) (q:=i) (by rw [HNB.out]; rfl) hi0 HI.out.2.1 HQ.out (fun c hc => by rw [List.getElem?_eq_none (by rw [Array.length_toList]; show s.size<=i + 1; omega)] at hc; cases hc))
        go_wp2_with fail
        refine (isDigit_any _ _).mono ?_
        rintro e w9 ⟨hk9,rfl⟩
        rw [hdi]
        obtain ⟨r0,r1,r2,r3⟩:=(HI.out.1.kept hk9).r2.all
        go_wp2_with fail
        exact bodyPost_ret (v:=.tuple #[.agg #[.int .i64 0,.int .i64 0],.int .i64 3]) (by simp [results,Tryz.results23,go_sem,r0,r1]) rfl ⟨Kept.put2 (HI.out.1.kept hk9).kp HP2.out _ _,by rw [parseOf_none HN.out]; rfl⟩
     ·
      have h46':((s[i].toNat:Int) == 46) = false:=by simpa using fun h => h46 (by omega)
      by_cases hib0:i = 1
      ·
       have HN:=hid' (scan_empty (L:=s.data.toList) (b:=1) (by rw [HNB.out]; rfl) (by rw [<- hib0]; exact hnd))
       have hib:((i:Int) == (1:Int)) = true:=by rw [hib0]; rfl
       have hgt:¬ (1:Int) < (i:Int):=by omega
       clear hib0
       obtain ⟨r0,r1,r2,r3⟩:=HI.out.1.r2.all
       go_wp2_with fail
       refine (isDigit_any _ _).mono ?_
       rintro e w9 ⟨hk9,rfl⟩
       rw [hdi]
       obtain ⟨r0,r1,r2,r3⟩:=(HI.out.1.kept hk9).r2.all
       go_wp2_with fail
       exact bodyPost_ret (v:=.tuple #[.agg #[.int .i64 0,.int .i64 0],.int .i64 3]) (by simp [results,Tryz.results23,go_sem,r0,r1]) rfl ⟨Kept.put2 (HI.out.1.kept hk9).kp HP2.out _ _,by rw [parseOf_none HN.out]; rfl⟩
      ·
       have hsc:=scan_plain (L:=s.data.toList) (b:=1) (i:=i) (by rw [HNB.out]; rfl) (by rw [Array.length_toList]; exact hs32) (by rw [Array.length_toList]; exact hi1) (by omega) HI.out.2.1 hnd (by rw [hd_at' s 46 i hlt]; exact decide_eq_false h46)
       obtain ⟨Dg,hDg⟩:∃ D,D = part s.data.toList 1 i:=⟨_,rfl⟩
       rw [<- hDg,HNB.out] at hsc
       have HW:=hid' HI.out.1
       rw [<- hDg] at HW
       rw [<- HI.out.2.2] at hsc
       have HX:=hid' hsc
       clear hsc hDg
       go_wp2_with fail
       refine (isDigit_any _ _).mono ?_
       rintro e w9 ⟨hk9,rfl⟩
       rw [hdi]
       have HW:=hid' (HW.out.kept hk9)
       clear hk9
       have hib:¬ ((i:Int) == (1:Int)) = true:=by simp; omega
       obtain ⟨u,hu⟩:∃ u:ByteArray,u = s.extract i s.size:=⟨_,rfl⟩
       have hul:u.data.toList = s.data.toList.drop i:=by rw [hu]; exact ext_drop s i
       have hus:u.size<=32:=by rw [size_list hul,List.length_drop,Array.length_toList]; have e:s.data.size = s.size:=rfl; omega
       go_wp2_with fail
       rw [<- hu]
       refine (tail_any u _ hus).mono ?_
       rintro e w5 ⟨hk5,hp⟩
       rw [hul] at hp
       have HW5:=hid' (HW.out.kept hk5)
       clear hk5 hu hul
       obtain ⟨r0,r1,r2,r3⟩:=HW5.out.r2.all
       obtain ⟨a0,a1,a2,a3⟩:=HW5.out.r7.all
       rcases hp with ⟨hp,rfl⟩ | ⟨x,hp,rfl,hx1,hx2⟩
       ·
        have HP:=hid' (parseOf_none (HX.out.2.2.2.1 hp))
        clear hp
        go_wp2_with fail
        exact bodyPost_ret (v:=.tuple #[.agg #[.int .i64 0,.int .i64 0],.int .i64 3]) (by simp [results,Tryz.results23,go_sem,r0,r1]) rfl ⟨Kept.put2 HW5.out.kp HP2.out _ _,by rw [HP.out]; rfl⟩
       have HP:=hid' (parseOf_some (HX.out.2.2.2.2 x hp))
       clear hp
       go_wp2_with fail
       refine (D.Sign_any sg ao k cap _ _ HW5.out.na (by have:=HW5.out.kb; omega)).mono ?_
       rintro e w6 ⟨rfl,hk6⟩
       have HW6:=hid' (HW5.out.kept hk6)
       clear hk6 r0 r1 r2 r3 a0 a1 a2 a3
       have hval:=trz_val HX.out.1
       by_cases hz:dv Dg = 0
       ·
        rw [show isgn ((dv Dg:Nat):Int) 0 = 0 by rw [hz]; rfl]
        have ht0:trz Dg = []:=by
         rcases hval.2 with ⟨h,_⟩ | ⟨_,h⟩
         ·
          exact h
         ·
          exfalso
          have h1:=hval.1
          rw [hz] at h1
          rcases Nat.mul_eq_zero.1 h1.symm with h2 | h2
          ·
           rw [h2] at h; exact h rfl
          ·
           exact absurd h2 (Nat.ne_of_gt (Nat.pow_pos (by decide)))
        have HR:=hid' (show numOf true Dg (x + ex) = some (0,0) by unfold numOf; rw [if_pos ht0])
        obtain ⟨r0,r1,r2,r3⟩:=HW6.out.r2.all
        clear hz ht0 hval
        go_wp2_with fail
        exact bodyPost_ret (v:=.tuple #[.agg #[.int .i64 0,.int .i64 0],.int .i64 0]) (by simp [results,Tryz.results23,go_sem,r0,r1]) rfl ⟨Kept.put2 HW6.out.kp HP2.out _ _,by rw [HP.out,HR.out]; rfl⟩
       have htn:trz Dg ≠ []/\dv (trz Dg) % 10 ≠ 0:=by
        rcases hval.2 with ⟨_,h⟩ | h
        ·
         exact absurd h hz
        ·
         exact h
       have hs0:(isgn ((dv Dg:Nat):Int) 0 == 0) = false:=by unfold isgn; rw [if_neg (by omega),if_neg (by omega)]; rfl
       generalize isgn ((dv Dg:Nat):Int) 0 = sg0 at hs0 ⊢
       have HV:=hid' (And.intro hval.1 (And.intro htn.1 htn.2))
       have hdlt:=dig_lt HX.out.1
       have hpw:10 ^ Dg.length<=10 ^ 32:=Nat.pow_le_pow_right (by decide) HX.out.2.2.1
       have HLT:Hid (dv Dg < 10 ^ 32/\0 < dv Dg):=⟨Nat.lt_of_lt_of_le hdlt hpw,Nat.pos_of_ne_zero hz⟩
       have hwx:IntKind.i64.wrap (ex + x) = ex + x:=wrap_i64' (by omega) (by omega)
       clear hval htn hz hdlt hpw
       go_wp2_with fail
       go_loopw [9] (fun vx wr => ∃ (c z:Nat) (sg:Bool) (ao:Option Addr) (k cap:Nat),vx = .int .i64 (ex + x + (z:Int))/\z<=32/\Hid (W3 w wr p2 p7 p8 sg ao k cap c aot nt capt/\dv Dg = c * 10 ^ z/\0 < c)) (fun vx _ => (400 - intOf vx).toNat)
       case atStart => exact ⟨dv Dg,0,sg,ao,k,cap,by simp,by omega,HW6.out,by simp,HLT.out.2⟩
       case round =>
        obtain ⟨c,z,sg,ao,k,cap,rfl,hz,HI⟩:=hrel
        obtain ⟨a0,a1,a2,a3⟩:=HI.out.1.r7.all
        obtain ⟨b0,b1,b2,b3⟩:=HI.out.1.r8.all
        go_wp2_with fail
        refine (D.Divide_any sg false ao aot k nt cap capt (c:Int) 10 _ HI.out.1.na HI.out.1.nten (by have:=HI.out.1.kb; omega) (by have:=HI.out.1.ntb; omega) (by decide)).mono ?_
        rintro e w7 ⟨hk7,s1,aq,kq,cq,t1,ar,kr,cr,rfl,nq,nr,lq,lr⟩
        have hKa:=((Kept.refl w7).alloc (.cells #[.bool s1,.slice aq kq cq] 76)).alloc (.cells #[.bool t1,.slice ar kr cr] 76)
        have hR13:=(Row2.alloc 76 w7 (.bool s1) (.slice aq kq cq)).kept ((Kept.refl _).alloc (.cells #[.bool t1,.slice ar kr cr] 76))
        have hR14:=Row2.alloc 76 (w7.alloc (.cells #[.bool s1,.slice aq kq cq] 76)) (.bool t1) (.slice ar kr cr)
        rw [World.size_alloc] at hR14
        have HW7:=hid' (HI.out.1.kept (hk7.trans hKa))
        have HQ:=hid' (And.intro (nq.kept hKa) (And.intro (nr.kept hKa) (And.intro lq lr)))
        clear a0 a1 a2 a3 b0 b1 b2 b3 nq nr lq lr
        go_upto_region 30 with fail
        generalize (w7.alloc (.cells #[.bool s1,.slice aq kq cq] 76)).alloc (.cells #[.bool t1,.slice ar kr cr] 76) = W7 at hR13 hR14 HW7 HQ hKa ⊢
        obtain ⟨p14,hp14⟩:∃ p,p = w7.heap.size + 1:=⟨_,rfl⟩
        rw [<- hp14] at hR14 ⊢
        obtain ⟨p13,hp13⟩:∃ p,p = w7.heap.size:=⟨_,rfl⟩
        rw [<- hp13] at hR13 ⊢
        have n713:¬ p7 = p13:=by have:=(HI.out.1.r7.kept hk7).lt; omega
        have n137:¬ p13 = p7:=fun h => n713 h.symm
        obtain ⟨b0,b1,b2,b3⟩:=hR14.all
        have H13:=hid' hR13
        clear hp13 hp14 hR13 hR14 hKa hk7
        go_wp2_with fail
        refine (D.Sign_any t1 ar kr cr _ _ HQ.out.2.1 (by have:=HQ.out.2.2.2; have:=HI.out.1.ntb; omega)).mono ?_
        rintro e w8 ⟨rfl,hk8⟩
        have HW8:=hid' (HW7.out.kept hk8)
        have HQ8:=hid' (HQ.out.1.kept hk8)
        have H13:=hid' (H13.out.kept hk8)
        clear hk8 b0 b1 b2 b3
        have etm:Int.tmod (c:Int) 10 = ((c % 10:Nat):Int):=rfl
        rw [etm]
        by_cases hr:c % 10 = 0
        ·
         rw [hr]
         rw [show isgn (((0:Nat):Int)) 0 = 0 by rfl]
         have hpz:10 ^ (z + 1)<=dv Dg:=by
          rw [HI.out.2.1,Nat.pow_succ,show c = c / 10 * 10 by omega,Nat.mul_assoc,Nat.mul_comm (10 ^ z) 10]
          exact Nat.le_mul_of_pos_left _ (by have:=HI.out.2.2; omega)
         have hz31:z + 1<=32:=by
          rcases Nat.lt_or_ge 32 (z + 1) with h | h
          ·
           exfalso
           have h1:10 ^ 32<=10 ^ (z + 1):=Nat.pow_le_pow_right (by decide) (by omega)
           have h2:=HLT.out.1
           omega
          ·
           exact h
         have HC:Hid (dv Dg = c / 10 * 10 ^ (z + 1)/\0 < c / 10):=⟨by rw [HI.out.2.1,Nat.pow_succ,Nat.mul_comm (10 ^ z) 10,<- Nat.mul_assoc,show c / 10 * 10 = c by omega],by have:=HI.out.2.2; omega⟩
         have hwz:IntKind.i64.wrap (ex + x + (z:Int) + 1) = ex + x + (z:Int) + 1:=wrap_i64' (by omega) (by omega)
         obtain ⟨b0,b1,b2,b3⟩:=H13.out.all
         obtain ⟨a0,a1,a2,a3⟩:=HW8.out.r7.all
         clear hr hpz etm
         go_wp2_with fail
         go_roundw
         case rel => exact ⟨c / 10,z + 1,s1,aq,kq,cq,by congr 1; omega,hz31,HW8.out.put (show D.NIs _ s1 (.slice aq kq cq) ((c / 10:Nat):Int) from HQ8.out) (by have:=HQ.out.2.2.1; have:=HI.out.1.kb; omega),HC.out⟩
         case measure => show (400 - (ex + x + (z:Int) + 1)).toNat < (400 - (ex + x + (z:Int))).toNat; omega
        ·
         have hs1:(isgn ((c % 10:Nat):Int) 0 == 0) = false:=by unfold isgn; rw [if_neg (by omega),if_neg (by omega)]; rfl
         generalize isgn ((c % 10:Nat):Int) 0 = sg1 at hs1 ⊢
         obtain ⟨hcv,hzv⟩:=ten_one (HI.out.2.1.symm.trans HV.out.1) hr HV.out.2.2
         have HCV:=hid' (And.intro hcv hzv)
         clear hr hcv hzv etm
         obtain ⟨a0,a1,a2,a3⟩:=HW8.out.r7.all
         go_wp2_with fail
         refine (D.Whole_any sg ao k cap (c:Int) _ HW8.out.na (by have:=HI.out.1.kb; omega)).mono ?_
         rintro e w9 ⟨rfl,hk9⟩
         have HW9:=hid' (HW8.out.kept hk9)
         clear hk9 a0 a1 a2 a3
         by_cases hsm:(c:Int)<=9223372036854775807
         ·
          rw [show i64r (c:Int) = (c:Int) by unfold i64r; rw [if_pos ⟨by omega,hsm⟩],show (i64e (c:Int) == 0) = true by unfold i64e; rw [if_pos ⟨by omega,hsm⟩]; rfl]
          have hwn:IntKind.i64.wrap (-(c:Int)) = -(c:Int):=wrap_i64' (by omega) (by omega)
          go_upto_region 37 with fail
          have hR17:=Row2.alloc 26 w9 (.int .i64 (-(c:Int))) (.int .i64 (ex + x + (z:Int)))
          have hK17:=(Kept.refl w9).alloc (.cells #[.int .i64 (-(c:Int)),.int .i64 (ex + x + (z:Int))] 26)
          have HW17:=hid' (HW9.out.kept hK17)
          generalize w9.alloc (.cells #[.int .i64 (-(c:Int)),.int .i64 (ex + x + (z:Int))] 26) = W9 at hR17 hK17 HW17 ⊢
          obtain ⟨p17,hp17⟩:∃ p,p = w9.heap.size:=⟨_,rfl⟩
          rw [<- hp17] at hR17 ⊢
          obtain ⟨b0,b1,b2,b3⟩:=hR17.all
          have H17:=hid' hR17
          have n172:¬ p17 = p2:=by have:=HW9.out.r2.lt; omega
          clear hR17 hK17 hp17
          go_wp2_with fail
          refine (RValid_any (-(c:Int)) (ex + x + (z:Int)) _).mono ?_
          rintro e wA ⟨hkA,rfl⟩
          have HWA:=hid' (HW17.out.kept hkA)
          obtain ⟨b0,b1,b2,b3⟩:=(H17.out.kept hkA).all
          obtain ⟨r0,r1,r2,r3⟩:=HWA.out.r2.all
          clear hkA
          have HNUM:=hid' (num_near (n:=true) (D:=Dg) (x:=x + ex) (m:=-(c:Int)) (y:=ex + x + (z:Int)) HV.out.2.1 (by rw [<- HCV.out.1]; omega) (by rw [<- HCV.out.1]; rfl) (by have h1:=HCV.out.2; have h2:=trz_len Dg; omega))
          by_cases hok:okN (-(c:Int)) (ex + x + (z:Int)) = true
          ·
           rw [hok]
           have HR:=hid' (HNUM.out.trans (by rw [if_pos hok]))
           clear hok
           go_wp2_with fail
           exact bodyPost_ret (v:=.tuple #[.agg #[.int .i64 (-(c:Int)),.int .i64 (ex + x + (z:Int))],.int .i64 0]) (by simp [results,Tryz.results23,go_sem,r0,r1]) rfl ⟨Kept.put2 HWA.out.kp HP2.out _ _,by rw [HP.out,HR.out]; rfl⟩
          ·
           have hok':okN (-(c:Int)) (ex + x + (z:Int)) = false:=by simpa using hok
           rw [hok']
           have HR:=hid' (HNUM.out.trans (by rw [if_neg hok]))
           clear hok hok'
           go_wp2_with fail
           exact bodyPost_ret (v:=.tuple #[.agg #[.int .i64 0,.int .i64 0],.int .i64 30]) (by simp [results,Tryz.results23,go_sem,r0,r1]) rfl ⟨Kept.put2 HWA.out.kp HP2.out _ _,by rw [HP.out,HR.out]; rfl⟩
         ·
          rw [show i64r (c:Int) = 0 by unfold i64r; rw [if_neg (by omega)],show (i64e (c:Int) == 0) = false by unfold i64e; rw [if_neg (by omega)]; rfl]
          have HR:=hid' (num_far (n:=true) (D:=Dg) (x:=x + ex) HV.out.2.1 (by rw [<- HCV.out.1]; omega))
          obtain ⟨r0,r1,r2,r3⟩:=(HW9.out.kept ((Kept.refl w9).alloc (.cells #[.int .i64 0,.int .i64 (ex + x + (z:Int))] 26))).r2.all
          go_wp2_with fail
          exact bodyPost_ret (v:=.tuple #[.agg #[.int .i64 0,.int .i64 0],.int .i64 30]) (by simp [results,Tryz.results23,go_sem,r0,r1]) rfl ⟨Kept.put2 (HW9.out.kp.alloc _) HP2.out _ _,by rw [HP.out,HR.out]; rfl⟩
   ·
    have hie:i = s.size:=by omega
    have hli:¬ (i:Int) < (s.size:Int):=by omega
    have hnd:∀ c,s.data.toList[i]? = some c->isd c = false:=fun c hc => by rw [List.getElem?_eq_none (by rw [Array.length_toList,hie]; exact Nat.le_refl _)] at hc; cases hc
    by_cases hib0:i = 1
    ·
     have HN:=hid' (scan_empty (L:=s.data.toList) (b:=1) (by rw [HNB.out]; rfl) (by rw [<- hib0]; exact hnd))
     have hib:((i:Int) == (1:Int)) = true:=by rw [hib0]; rfl
     clear hib0 hie
     obtain ⟨r0,r1,r2,r3⟩:=HI.out.1.r2.all
     go_wp2_with fail
     exact bodyPost_ret (v:=.tuple #[.agg #[.int .i64 0,.int .i64 0],.int .i64 3]) (by simp [results,Tryz.results23,go_sem,r0,r1]) rfl ⟨Kept.put2 HI.out.1.kp HP2.out _ _,by rw [parseOf_none HN.out]; rfl⟩
    ·
     have hsc:=scan_plain (L:=s.data.toList) (b:=1) (i:=i) (by rw [HNB.out]; rfl) (by rw [Array.length_toList]; exact hs32) (by rw [Array.length_toList]; exact hi1) (by omega) HI.out.2.1 hnd (by rw [List.drop_eq_nil_of_le (by rw [Array.length_toList,hie]; exact Nat.le_refl _)]; rfl)
     obtain ⟨Dg,hDg⟩:∃ D,D = part s.data.toList 1 i:=⟨_,rfl⟩
     rw [<- hDg,HNB.out] at hsc
     have HW:=hid' HI.out.1
     rw [<- hDg] at HW
     rw [<- HI.out.2.2] at hsc
     have HX:=hid' hsc
     clear hsc hDg hie
     have hib:¬ ((i:Int) == (1:Int)) = true:=by simp; omega
     obtain ⟨u,hu⟩:∃ u:ByteArray,u = s.extract i s.size:=⟨_,rfl⟩
     have hul:u.data.toList = s.data.toList.drop i:=by rw [hu]; exact ext_drop s i
     have hus:u.size<=32:=by rw [size_list hul,List.length_drop,Array.length_toList]; have e:s.data.size = s.size:=rfl; omega
     go_wp2_with fail
     rw [<- hu]
     refine (tail_any u _ hus).mono ?_
     rintro e w5 ⟨hk5,hp⟩
     rw [hul] at hp
     have HW5:=hid' (HW.out.kept hk5)
     clear hk5 hu hul
     obtain ⟨r0,r1,r2,r3⟩:=HW5.out.r2.all
     obtain ⟨a0,a1,a2,a3⟩:=HW5.out.r7.all
     rcases hp with ⟨hp,rfl⟩ | ⟨x,hp,rfl,hx1,hx2⟩
     ·
      have HP:=hid' (parseOf_none (HX.out.2.2.2.1 hp))
      clear hp
      go_wp2_with fail
      exact bodyPost_ret (v:=.tuple #[.agg #[.int .i64 0,.int .i64 0],.int .i64 3]) (by simp [results,Tryz.results23,go_sem,r0,r1]) rfl ⟨Kept.put2 HW5.out.kp HP2.out _ _,by rw [HP.out]; rfl⟩
     have HP:=hid' (parseOf_some (HX.out.2.2.2.2 x hp))
     clear hp
     go_wp2_with fail
     refine (D.Sign_any sg ao k cap _ _ HW5.out.na (by have:=HW5.out.kb; omega)).mono ?_
     rintro e w6 ⟨rfl,hk6⟩
     have HW6:=hid' (HW5.out.kept hk6)
     clear hk6 r0 r1 r2 r3 a0 a1 a2 a3
     have hval:=trz_val HX.out.1
     by_cases hz:dv Dg = 0
     ·
      rw [show isgn ((dv Dg:Nat):Int) 0 = 0 by rw [hz]; rfl]
      have ht0:trz Dg = []:=by
       rcases hval.2 with ⟨h,_⟩ | ⟨_,h⟩
       ·
        exact h
       ·
        exfalso
        have h1:=hval.1
        rw [hz] at h1
        rcases Nat.mul_eq_zero.1 h1.symm with h2 | h2
        ·
         rw [h2] at h; exact h rfl
        ·
         exact absurd h2 (Nat.ne_of_gt (Nat.pow_pos (by decide)))
      have HR:=hid' (show numOf true Dg (x + ex) = some (0,0) by unfold numOf; rw [if_pos ht0])
      obtain ⟨r0,r1,r2,r3⟩:=HW6.out.r2.all
      clear hz ht0 hval
      go_wp2_with fail
      exact bodyPost_ret (v:=.tuple #[.agg #[.int .i64 0,.int .i64 0],.int .i64 0]) (by simp [results,Tryz.results23,go_sem,r0,r1]) rfl ⟨Kept.put2 HW6.out.kp HP2.out _ _,by rw [HP.out,HR.out]; rfl⟩
     have htn:trz Dg ≠ []/\dv (trz Dg) % 10 ≠ 0:=by
      rcases hval.2 with ⟨_,h⟩ | h
      ·
       exact absurd h hz
      ·
       exact h
     have hs0:(isgn ((dv Dg:Nat):Int) 0 == 0) = false:=by unfold isgn; rw [if_neg (by omega),if_neg (by omega)]; rfl
     generalize isgn ((dv Dg:Nat):Int) 0 = sg0 at hs0 ⊢
     have HV:=hid' (And.intro hval.1 (And.intro htn.1 htn.2))
     have hdlt:=dig_lt HX.out.1
     have hpw:10 ^ Dg.length<=10 ^ 32:=Nat.pow_le_pow_right (by decide) HX.out.2.2.1
     have HLT:Hid (dv Dg < 10 ^ 32/\0 < dv Dg):=⟨Nat.lt_of_lt_of_le hdlt hpw,Nat.pos_of_ne_zero hz⟩
     have hwx:IntKind.i64.wrap (ex + x) = ex + x:=wrap_i64' (by omega) (by omega)
     clear hval htn hz hdlt hpw
     go_wp2_with fail
     go_loopw [9] (fun vx wr => ∃ (c z:Nat) (sg:Bool) (ao:Option Addr) (k cap:Nat),vx = .int .i64 (ex + x + (z:Int))/\z<=32/\Hid (W3 w wr p2 p7 p8 sg ao k cap c aot nt capt/\dv Dg = c * 10 ^ z/\0 < c)) (fun vx _ => (400 - intOf vx).toNat)
     case atStart => exact ⟨dv Dg,0,sg,ao,k,cap,by simp,by omega,HW6.out,by simp,HLT.out.2⟩
     case round =>
      obtain ⟨c,z,sg,ao,k,cap,rfl,hz,HI⟩:=hrel
      obtain ⟨a0,a1,a2,a3⟩:=HI.out.1.r7.all
      obtain ⟨b0,b1,b2,b3⟩:=HI.out.1.r8.all
      go_wp2_with fail
      refine (D.Divide_any sg false ao aot k nt cap capt (c:Int) 10 _ HI.out.1.na HI.out.1.nten (by have:=HI.out.1.kb; omega) (by have:=HI.out.1.ntb; omega) (by decide)).mono ?_
      rintro e w7 ⟨hk7,s1,aq,kq,cq,t1,ar,kr,cr,rfl,nq,nr,lq,lr⟩
      have hKa:=((Kept.refl w7).alloc (.cells #[.bool s1,.slice aq kq cq] 76)).alloc (.cells #[.bool t1,.slice ar kr cr] 76)
      have hR13:=(Row2.alloc 76 w7 (.bool s1) (.slice aq kq cq)).kept ((Kept.refl _).alloc (.cells #[.bool t1,.slice ar kr cr] 76))
      have hR14:=Row2.alloc 76 (w7.alloc (.cells #[.bool s1,.slice aq kq cq] 76)) (.bool t1) (.slice ar kr cr)
      rw [World.size_alloc] at hR14
      have HW7:=hid' (HI.out.1.kept (hk7.trans hKa))
      have HQ:=hid' (And.intro (nq.kept hKa) (And.intro (nr.kept hKa) (And.intro lq lr)))
      clear a0 a1 a2 a3 b0 b1 b2 b3 nq nr lq lr
      go_upto_region 30 with fail
      generalize (w7.alloc (.cells #[.bool s1,.slice aq kq cq] 76)).alloc (.cells #[.bool t1,.slice ar kr cr] 76) = W7 at hR13 hR14 HW7 HQ hKa ⊢
      obtain ⟨p14,hp14⟩:∃ p,p = w7.heap.size + 1:=⟨_,rfl⟩
      rw [<- hp14] at hR14 ⊢
      obtain ⟨p13,hp13⟩:∃ p,p = w7.heap.size:=⟨_,rfl⟩
      rw [<- hp13] at hR13 ⊢
      have n713:¬ p7 = p13:=by have:=(HI.out.1.r7.kept hk7).lt; omega
      have n137:¬ p13 = p7:=fun h => n713 h.symm
      obtain ⟨b0,b1,b2,b3⟩:=hR14.all
      have H13:=hid' hR13
      clear hp13 hp14 hR13 hR14 hKa hk7
      go_wp2_with fail
      refine (D.Sign_any t1 ar kr cr _ _ HQ.out.2.1 (by have:=HQ.out.2.2.2; have:=HI.out.1.ntb; omega)).mono ?_
      rintro e w8 ⟨rfl,hk8⟩
      have HW8:=hid' (HW7.out.kept hk8)
      have HQ8:=hid' (HQ.out.1.kept hk8)
      have H13:=hid' (H13.out.kept hk8)
      clear hk8 b0 b1 b2 b3
      have etm:Int.tmod (c:Int) 10 = ((c % 10:Nat):Int):=rfl
      rw [etm]
      by_cases hr:c % 10 = 0
      ·
       rw [hr]
       rw [show isgn (((0:Nat):Int)) 0 = 0 by rfl]
       have hpz:10 ^ (z + 1)<=dv Dg:=by
        rw [HI.out.2.1,Nat.pow_succ,show c = c / 10 * 10 by omega,Nat.mul_assoc,Nat.mul_comm (10 ^ z) 10]
        exact Nat.le_mul_of_pos_left _ (by have:=HI.out.2.2; omega)
       have hz31:z + 1<=32:=by
        rcases Nat.lt_or_ge 32 (z + 1) with h | h
        ·
         exfalso
         have h1:10 ^ 32<=10 ^ (z + 1):=Nat.pow_le_pow_right (by decide) (by omega)
         have h2:=HLT.out.1
         omega
        ·
         exact h
       have HC:Hid (dv Dg = c / 10 * 10 ^ (z + 1)/\0 < c / 10):=⟨by rw [HI.out.2.1,Nat.pow_succ,Nat.mul_comm (10 ^ z) 10,<- Nat.mul_assoc,show c / 10 * 10 = c by omega],by have:=HI.out.2.2; omega⟩
       have hwz:IntKind.i64.wrap (ex + x + (z:Int) + 1) = ex + x + (z:Int) + 1:=wrap_i64' (by omega) (by omega)
       obtain ⟨b0,b1,b2,b3⟩:=H13.out.all
       obtain ⟨a0,a1,a2,a3⟩:=HW8.out.r7.all
       clear hr hpz etm
       go_wp2_with fail
       go_roundw
       case rel => exact ⟨c / 10,z + 1,s1,aq,kq,cq,by congr 1; omega,hz31,HW8.out.put (show D.NIs _ s1 (.slice aq kq cq) ((c / 10:Nat):Int) from HQ8.out) (by have:=HQ.out.2.2.1; have:=HI.out.1.kb; omega),HC.out⟩
       case measure => show (400 - (ex + x + (z:Int) + 1)).toNat < (400 - (ex + x + (z:Int))).toNat; omega
      ·
       have hs1:(isgn ((c % 10:Nat):Int) 0 == 0) = false:=by unfold isgn; rw [if_neg (by omega),if_neg (by omega)]; rfl
       generalize isgn ((c % 10:Nat):Int) 0 = sg1 at hs1 ⊢
       obtain ⟨hcv,hzv⟩:=ten_one (HI.out.2.1.symm.trans HV.out.1) hr HV.out.2.2
       have HCV:=hid' (And.intro hcv hzv)
       clear hr hcv hzv etm
       obtain ⟨a0,a1,a2,a3⟩:=HW8.out.r7.all
       go_wp2_with fail
       refine (D.Whole_any sg ao k cap (c:Int) _ HW8.out.na (by have:=HI.out.1.kb; omega)).mono ?_
       rintro e w9 ⟨rfl,hk9⟩
       have HW9:=hid' (HW8.out.kept hk9)
       clear hk9 a0 a1 a2 a3
       by_cases hsm:(c:Int)<=9223372036854775807
       ·
        rw [show i64r (c:Int) = (c:Int) by unfold i64r; rw [if_pos ⟨by omega,hsm⟩],show (i64e (c:Int) == 0) = true by unfold i64e; rw [if_pos ⟨by omega,hsm⟩]; rfl]
        have hwn:IntKind.i64.wrap (-(c:Int)) = -(c:Int):=wrap_i64' (by omega) (by omega)
        go_upto_region 37 with fail
        have hR17:=Row2.alloc 26 w9 (.int .i64 (-(c:Int))) (.int .i64 (ex + x + (z:Int)))
        have hK17:=(Kept.refl w9).alloc (.cells #[.int .i64 (-(c:Int)),.int .i64 (ex + x + (z:Int))] 26)
        have HW17:=hid' (HW9.out.kept hK17)
        generalize w9.alloc (.cells #[.int .i64 (-(c:Int)),.int .i64 (ex + x + (z:Int))] 26) = W9 at hR17 hK17 HW17 ⊢
        obtain ⟨p17,hp17⟩:∃ p,p = w9.heap.size:=⟨_,rfl⟩
        rw [<- hp17] at hR17 ⊢
        obtain ⟨b0,b1,b2,b3⟩:=hR17.all
        have H17:=hid' hR17
        have n172:¬ p17 = p2:=by have:=HW9.out.r2.lt; omega
        clear hR17 hK17 hp17
        go_wp2_with fail
        refine (RValid_any (-(c:Int)) (ex + x + (z:Int)) _).mono ?_
        rintro e wA ⟨hkA,rfl⟩
        have HWA:=hid' (HW17.out.kept hkA)
        obtain ⟨b0,b1,b2,b3⟩:=(H17.out.kept hkA).all
        obtain ⟨r0,r1,r2,r3⟩:=HWA.out.r2.all
        clear hkA
        have HNUM:=hid' (num_near (n:=true) (D:=Dg) (x:=x + ex) (m:=-(c:Int)) (y:=ex + x + (z:Int)) HV.out.2.1 (by rw [<- HCV.out.1]; omega) (by rw [<- HCV.out.1]; rfl) (by have h1:=HCV.out.2; have h2:=trz_len Dg; omega))
        by_cases hok:okN (-(c:Int)) (ex + x + (z:Int)) = true
        ·
         rw [hok]
         have HR:=hid' (HNUM.out.trans (by rw [if_pos hok]))
         clear hok
         go_wp2_with fail
         exact bodyPost_ret (v:=.tuple #[.agg #[.int .i64 (-(c:Int)),.int .i64 (ex + x + (z:Int))],.int .i64 0]) (by simp [results,Tryz.results23,go_sem,r0,r1]) rfl ⟨Kept.put2 HWA.out.kp HP2.out _ _,by rw [HP.out,HR.out]; rfl⟩
        ·
         have hok':okN (-(c:Int)) (ex + x + (z:Int)) = false:=by simpa using hok
         rw [hok']
         have HR:=hid' (HNUM.out.trans (by rw [if_neg hok]))
         clear hok hok'
         go_wp2_with fail
         exact bodyPost_ret (v:=.tuple #[.agg #[.int .i64 0,.int .i64 0],.int .i64 30]) (by simp [results,Tryz.results23,go_sem,r0,r1]) rfl ⟨Kept.put2 HWA.out.kp HP2.out _ _,by rw [HP.out,HR.out]; rfl⟩
       ·
        rw [show i64r (c:Int) = 0 by unfold i64r; rw [if_neg (by omega)],show (i64e (c:Int) == 0) = false by unfold i64e; rw [if_neg (by omega)]; rfl]
        have HR:=hid' (num_far (n:=true) (D:=Dg) (x:=x + ex) HV.out.2.1 (by rw [<- HCV.out.1]; omega))
        obtain ⟨r0,r1,r2,r3⟩:=(HW9.out.kept ((Kept.refl w9).alloc (.cells #[.int .i64 0,.int .i64 (ex + x + (z:Int))] 26))).r2.all
        go_wp2_with fail
        exact bodyPost_ret (v:=.tuple #[.agg #[.int .i64 0,.int .i64 0],.int .i64 30]) (by simp [results,Tryz.results23,go_sem,r0,r1]) rfl ⟨Kept.put2 (HW9.out.kp.alloc _) HP2.out _ _,by rw [HP.out,HR.out]; rfl⟩
  ·
   by_cases hlt:i < s.size
   ·
    have hli:(i:Int) < (s.size:Int):=by omega
    by_cases hd:48<=s[i].toNat/\s[i].toNat<=57
    ·
     have hdi:isdI (s[i].toNat:Int) = true:=isdI_yes (by omega) (by omega)
     have h46:((s[i].toNat:Int) == 46) = false:=by simp; omega
     have hw1:IntKind.u8.wrap ((s[i].toNat:Int) - 48) = (s[i].toNat:Int) - 48:=by rw [IntKind.wrap_u8]; omega
     have hw2:IntKind.i64.wrap ((s[i].toNat:Int) - 48) = (s[i].toNat:Int) - 48:=wrap_i64' (by omega) (by omega)
     have hwe:IntKind.i64.wrap (ex - 1) = ex - 1:=wrap_i64' (by omega) (by omega)
     have hdn:0<=(s[i].toNat:Int) - 48/\(s[i].toNat:Int) - 48 < 65536:=by omega
     have hD':Dig (part s.data.toList (q + 1) (i + 1)):=by
      rw [part_next s (q + 1) i hq1 hlt]
      exact HI.out.2.2.1.append (fun c hc => by rw [List.mem_singleton] at hc; subst hc; exact hd)
     have hv':((dv (part s.data.toList 1 q ++ part s.data.toList (q + 1) (i + 1)):Nat):Int) = (dv (part s.data.toList 1 q ++ part s.data.toList (q + 1) i):Int) * 10 + ((s[i].toNat:Int) - 48):=by rw [part_next s (q + 1) i hq1 hlt,<- List.append_assoc,dv_snoc]; omega
     have HD:=hid' (And.intro hD' hv')
     clear hd hD' hv'
     go_wp2_with fail
     refine (isDigit_any _ _).mono ?_
     rintro e w9 ⟨hk9,rfl⟩
     rw [hdi]
     have HW:=hid' (HI.out.1.kept hk9)
     clear hk9
     obtain ⟨a0,a1,a2,a3⟩:=HW.out.r7.all
     obtain ⟨b0,b1,b2,b3⟩:=HW.out.r8.all
     have hne87:=HW.out.ne87
     have hne78:¬ p7 = p8:=fun h => hne87 h.symm
     go_wp2_with fail
     go_region_with (first
      | (go_at_call 51; refine (D.Times_any sg false ao aot k nt cap capt _ _ _ (HW.out.na.kept (Kept.refl _).drew) (HW.out.nten.kept (Kept.refl _).drew) (by have:=HW.out.kb; omega) (by have:=HW.out.ntb; omega)).mono ?_; rintro e wB ⟨hkB,sB,aoB,kB,cB,rfl,nB,lB⟩; have HB:=hid' (And.intro nB lB); have KB:=(Kept.refl w9).drew.trans hkB; obtain ⟨d0,d1,d2,d3⟩:=(HW.out.kept KB).r7.all; obtain ⟨f0,f1,f2,f3⟩:=(HW.out.kept KB).r8.all; clear nB lB hkB)
      | (go_at_call 48; refine (D.small_num _ _ hdn.1 hdn.2).mono ?_; rintro e wC ⟨hkC,aoC,kC,cC,rfl,nC,lC⟩; have HC:=hid' (And.intro nC (And.intro lC (HB.out.1.kept hkC))); have KC:=KB.trans hkC; obtain ⟨g0,g1,g2,g3⟩:=(HW.out.kept KC).r7.all; clear nC lC hkC)
      | (go_at_call 50; refine (D.Plus_any sB false aoB aoC kB kC cB cC _ _ _ HC.out.2.2 HC.out.1 (by have h1:=HB.out.2; have h2:=HW.out.kb; have h3:=HW.out.ntb; omega) (by have:=HC.out.2.1; omega)).mono ?_; rintro e wE ⟨hkE,sE,aoE,kE,cE,rfl,nE,lE⟩; have HE:=hid' (And.intro nE lE); have KE:=KC.trans hkE; obtain ⟨j0,j1,j2,j3⟩:=(HW.out.kept KE).r7.all; clear nE lE hkE))
     all_goals
      have HWE:=hid' (HW.out.kept KE)
      clear KB KC KE
      go_wp2_with fail
      go_roundw
      case rel => exact ⟨i + 1,ex - 1,sE,aoE,kE,cE,by go_num,by omega,rfl,by have:=HI.out.2.2.2.2.2; omega,.inr ⟨q,rfl,hq0,by omega,hq2,HWE.out.put (by rw [HD.out.2]; exact HE.out.1) (by have h1:=HE.out.2; have h2:=HB.out.2; have h3:=HC.out.2.1; have h4:=HW.out.ntb; omega),HI.out.2.1,HD.out.1,HI.out.2.2.2.1,HI.out.2.2.2.2.1,by have:=HI.out.2.2.2.2.2; omega⟩,by have h1:=HE.out.2; have h2:=HB.out.2; have h3:=HC.out.2.1; have h4:=HW.out.ntb; omega⟩
      case measure => show s.size - ((i:Int) + 1).toNat < s.size - (i:Int).toNat; omega
    ·
     have hdi:isdI (s[i].toNat:Int) = false:=isdI_no hd
     have hnd:∀ c,s.data.toList[i]? = some c->isd c = false:=fun c hc => by rw [list_at s i hlt] at hc; cases hc; unfold isd; exact decide_eq_false (by omega)
     have hqi:q + 1 < i:=by
      rcases Nat.lt_or_ge (q + 1) i with h | h
      ·
       exact h
      ·
       exfalso
       have e:q + 1 = i:=by omega
       have h1:=HI.out.2.2.2.2.1 s[i] (by rw [e]; exact list_at s i hlt)
       rw [hnd s[i] (list_at s i hlt)] at h1
       cases h1
     have hsc:=scan_point (L:=s.data.toList) (b:=1) (q:=q) (i:=i) (by rw [HNB.out]; rfl) (by rw [Array.length_toList]; exact hs32) (by rw [Array.length_toList]; exact hi1) hq0 hqi HI.out.2.1 HI.out.2.2.2.1 HI.out.2.2.1 hnd
     by_cases h46:s[i].toNat = 46
     ·
      have h46':((s[i].toNat:Int) == 46) = true:=by simp [h46]
      clear h46
      obtain ⟨Dg,hDg⟩:∃ D,D = part s.data.toList 1 q ++ part s.data.toList (q + 1) i:=⟨_,rfl⟩
      rw [<- hDg,HNB.out] at hsc
      have HW:=hid' HI.out.1
      rw [<- hDg] at HW
      rw [<- HI.out.2.2.2.2.2] at hsc
      have HX:=hid' hsc
      clear hsc hDg
      go_wp2_with fail
      refine (isDigit_any _ _).mono ?_
      rintro e w9 ⟨hk9,rfl⟩
      rw [hdi]
      have HW:=hid' (HW.out.kept hk9)
      clear hk9
      have hib:¬ ((i:Int) == (1:Int)) = true:=by simp; omega
      obtain ⟨u,hu⟩:∃ u:ByteArray,u = s.extract i s.size:=⟨_,rfl⟩
      have hul:u.data.toList = s.data.toList.drop i:=by rw [hu]; exact ext_drop s i
      have hus:u.size<=32:=by rw [size_list hul,List.length_drop,Array.length_toList]; have e:s.data.size = s.size:=rfl; omega
      go_wp2_with fail
      rw [<- hu]
      refine (tail_any u _ hus).mono ?_
      rintro e w5 ⟨hk5,hp⟩
      rw [hul] at hp
      have HW5:=hid' (HW.out.kept hk5)
      clear hk5 hu hul
      obtain ⟨r0,r1,r2,r3⟩:=HW5.out.r2.all
      obtain ⟨a0,a1,a2,a3⟩:=HW5.out.r7.all
      rcases hp with ⟨hp,rfl⟩ | ⟨x,hp,rfl,hx1,hx2⟩
      ·
       have HP:=hid' (parseOf_none (HX.out.2.2.2.1 hp))
       clear hp
       go_wp2_with fail
       exact bodyPost_ret (v:=.tuple #[.agg #[.int .i64 0,.int .i64 0],.int .i64 3]) (by simp [results,Tryz.results23,go_sem,r0,r1]) rfl ⟨Kept.put2 HW5.out.kp HP2.out _ _,by rw [HP.out]; rfl⟩
      have HP:=hid' (parseOf_some (HX.out.2.2.2.2 x hp))
      clear hp
      go_wp2_with fail
      refine (D.Sign_any sg ao k cap _ _ HW5.out.na (by have:=HW5.out.kb; omega)).mono ?_
      rintro e w6 ⟨rfl,hk6⟩
      have HW6:=hid' (HW5.out.kept hk6)
      clear hk6 r0 r1 r2 r3 a0 a1 a2 a3
      have hval:=trz_val HX.out.1
      by_cases hz:dv Dg = 0
      ·
       rw [show isgn ((dv Dg:Nat):Int) 0 = 0 by rw [hz]; rfl]
       have ht0:trz Dg = []:=by
        rcases hval.2 with ⟨h,_⟩ | ⟨_,h⟩
        ·
         exact h
        ·
         exfalso
         have h1:=hval.1
         rw [hz] at h1
         rcases Nat.mul_eq_zero.1 h1.symm with h2 | h2
         ·
          rw [h2] at h; exact h rfl
         ·
          exact absurd h2 (Nat.ne_of_gt (Nat.pow_pos (by decide)))
       have HR:=hid' (show numOf true Dg (x + ex) = some (0,0) by unfold numOf; rw [if_pos ht0])
       obtain ⟨r0,r1,r2,r3⟩:=HW6.out.r2.all
       clear hz ht0 hval
       go_wp2_with fail
       exact bodyPost_ret (v:=.tuple #[.agg #[.int .i64 0,.int .i64 0],.int .i64 0]) (by simp [results,Tryz.results23,go_sem,r0,r1]) rfl ⟨Kept.put2 HW6.out.kp HP2.out _ _,by rw [HP.out,HR.out]; rfl⟩
      have htn:trz Dg ≠ []/\dv (trz Dg) % 10 ≠ 0:=by
       rcases hval.2 with ⟨_,h⟩ | h
       ·
        exact absurd h hz
       ·
        exact h
      have hs0:(isgn ((dv Dg:Nat):Int) 0 == 0) = false:=by unfold isgn; rw [if_neg (by omega),if_neg (by omega)]; rfl
      generalize isgn ((dv Dg:Nat):Int) 0 = sg0 at hs0 ⊢
      have HV:=hid' (And.intro hval.1 (And.intro htn.1 htn.2))
      have hdlt:=dig_lt HX.out.1
      have hpw:10 ^ Dg.length<=10 ^ 32:=Nat.pow_le_pow_right (by decide) HX.out.2.2.1
      have HLT:Hid (dv Dg < 10 ^ 32/\0 < dv Dg):=⟨Nat.lt_of_lt_of_le hdlt hpw,Nat.pos_of_ne_zero hz⟩
      have hwx:IntKind.i64.wrap (ex + x) = ex + x:=wrap_i64' (by omega) (by omega)
      clear hval htn hz hdlt hpw
      go_wp2_with fail
      go_loopw [9] (fun vx wr => ∃ (c z:Nat) (sg:Bool) (ao:Option Addr) (k cap:Nat),vx = .int .i64 (ex + x + (z:Int))/\z<=32/\Hid (W3 w wr p2 p7 p8 sg ao k cap c aot nt capt/\dv Dg = c * 10 ^ z/\0 < c)) (fun vx _ => (400 - intOf vx).toNat)
      case atStart => exact ⟨dv Dg,0,sg,ao,k,cap,by simp,by omega,HW6.out,by simp,HLT.out.2⟩
      case round =>
       obtain ⟨c,z,sg,ao,k,cap,rfl,hz,HI⟩:=hrel
       obtain ⟨a0,a1,a2,a3⟩:=HI.out.1.r7.all
       obtain ⟨b0,b1,b2,b3⟩:=HI.out.1.r8.all
       go_wp2_with fail
       refine (D.Divide_any sg false ao aot k nt cap capt (c:Int) 10 _ HI.out.1.na HI.out.1.nten (by have:=HI.out.1.kb; omega) (by have:=HI.out.1.ntb; omega) (by decide)).mono ?_
       rintro e w7 ⟨hk7,s1,aq,kq,cq,t1,ar,kr,cr,rfl,nq,nr,lq,lr⟩
       have hKa:=((Kept.refl w7).alloc (.cells #[.bool s1,.slice aq kq cq] 76)).alloc (.cells #[.bool t1,.slice ar kr cr] 76)
       have hR13:=(Row2.alloc 76 w7 (.bool s1) (.slice aq kq cq)).kept ((Kept.refl _).alloc (.cells #[.bool t1,.slice ar kr cr] 76))
       have hR14:=Row2.alloc 76 (w7.alloc (.cells #[.bool s1,.slice aq kq cq] 76)) (.bool t1) (.slice ar kr cr)
       rw [World.size_alloc] at hR14
       have HW7:=hid' (HI.out.1.kept (hk7.trans hKa))
       have HQ:=hid' (And.intro (nq.kept hKa) (And.intro (nr.kept hKa) (And.intro lq lr)))
       clear a0 a1 a2 a3 b0 b1 b2 b3 nq nr lq lr
       go_upto_region 30 with fail
       generalize (w7.alloc (.cells #[.bool s1,.slice aq kq cq] 76)).alloc (.cells #[.bool t1,.slice ar kr cr] 76) = W7 at hR13 hR14 HW7 HQ hKa ⊢
       obtain ⟨p14,hp14⟩:∃ p,p = w7.heap.size + 1:=⟨_,rfl⟩
       rw [<- hp14] at hR14 ⊢
       obtain ⟨p13,hp13⟩:∃ p,p = w7.heap.size:=⟨_,rfl⟩
       rw [<- hp13] at hR13 ⊢
       have n713:¬ p7 = p13:=by have:=(HI.out.1.r7.kept hk7).lt; omega
       have n137:¬ p13 = p7:=fun h => n713 h.symm
       obtain ⟨b0,b1,b2,b3⟩:=hR14.all
       have H13:=hid' hR13
       clear hp13 hp14 hR13 hR14 hKa hk7
       go_wp2_with fail
       refine (D.Sign_any t1 ar kr cr _ _ HQ.out.2.1 (by have:=HQ.out.2.2.2; have:=HI.out.1.ntb; omega)).mono ?_
       rintro e w8 ⟨rfl,hk8⟩
       have HW8:=hid' (HW7.out.kept hk8)
       have HQ8:=hid' (HQ.out.1.kept hk8)
       have H13:=hid' (H13.out.kept hk8)
       clear hk8 b0 b1 b2 b3
       have etm:Int.tmod (c:Int) 10 = ((c % 10:Nat):Int):=rfl
       rw [etm]
       by_cases hr:c % 10 = 0
       ·
        rw [hr]
        rw [show isgn (((0:Nat):Int)) 0 = 0 by rfl]
        have hpz:10 ^ (z + 1)<=dv Dg:=by
         rw [HI.out.2.1,Nat.pow_succ,show c = c / 10 * 10 by omega,Nat.mul_assoc,Nat.mul_comm (10 ^ z) 10]
         exact Nat.le_mul_of_pos_left _ (by have:=HI.out.2.2; omega)
        have hz31:z + 1<=32:=by
         rcases Nat.lt_or_ge 32 (z + 1) with h | h
         ·
          exfalso
          have h1:10 ^ 32<=10 ^ (z + 1):=Nat.pow_le_pow_right (by decide) (by omega)
          have h2:=HLT.out.1
          omega
         ·
          exact h
        have HC:Hid (dv Dg = c / 10 * 10 ^ (z + 1)/\0 < c / 10):=⟨by rw [HI.out.2.1,Nat.pow_succ,Nat.mul_comm (10 ^ z) 10,<- Nat.mul_assoc,show c / 10 * 10 = c by omega],by have:=HI.out.2.2; omega⟩
        have hwz:IntKind.i64.wrap (ex + x + (z:Int) + 1) = ex + x + (z:Int) + 1:=wrap_i64' (by omega) (by omega)
        obtain ⟨b0,b1,b2,b3⟩:=H13.out.all
        obtain ⟨a0,a1,a2,a3⟩:=HW8.out.r7.all
        clear hr hpz etm
        go_wp2_with fail
        go_roundw
        case rel => exact ⟨c / 10,z + 1,s1,aq,kq,cq,by congr 1; omega,hz31,HW8.out.put (show D.NIs _ s1 (.slice aq kq cq) ((c / 10:Nat):Int) from HQ8.out) (by have:=HQ.out.2.2.1; have:=HI.out.1.kb; omega),HC.out⟩
        case measure => show (400 - (ex + x + (z:Int) + 1)).toNat < (400 - (ex + x + (z:Int))).toNat; omega
       ·
        have hs1:(isgn ((c % 10:Nat):Int) 0 == 0) = false:=by unfold isgn; rw [if_neg (by omega),if_neg (by omega)]; rfl
        generalize isgn ((c % 10:Nat):Int) 0 = sg1 at hs1 ⊢
        obtain ⟨hcv,hzv⟩:=ten_one (HI.out.2.1.symm.trans HV.out.1) hr HV.out.2.2
        have HCV:=hid' (And.intro hcv hzv)
        clear hr hcv hzv etm
        obtain ⟨a0,a1,a2,a3⟩:=HW8.out.r7.all
        go_wp2_with fail
        refine (D.Whole_any sg ao k cap (c:Int) _ HW8.out.na (by have:=HI.out.1.kb; omega)).mono ?_
        rintro e w9 ⟨rfl,hk9⟩
        have HW9:=hid' (HW8.out.kept hk9)
        clear hk9 a0 a1 a2 a3
        by_cases hsm:(c:Int)<=9223372036854775807
        ·
         rw [show i64r (c:Int) = (c:Int) by unfold i64r; rw [if_pos ⟨by omega,hsm⟩],show (i64e (c:Int) == 0) = true by unfold i64e; rw [if_pos ⟨by omega,hsm⟩]; rfl]
         have hwn:IntKind.i64.wrap (-(c:Int)) = -(c:Int):=wrap_i64' (by omega) (by omega)
         go_upto_region 37 with fail
         have hR17:=Row2.alloc 26 w9 (.int .i64 (-(c:Int))) (.int .i64 (ex + x + (z:Int)))
         have hK17:=(Kept.refl w9).alloc (.cells #[.int .i64 (-(c:Int)),.int .i64 (ex + x + (z:Int))] 26)
         have HW17:=hid' (HW9.out.kept hK17)
         generalize w9.alloc (.cells #[.int .i64 (-(c:Int)),.int .i64 (ex + x + (z:Int))] 26) = W9 at hR17 hK17 HW17 ⊢
         obtain ⟨p17,hp17⟩:∃ p,p = w9.heap.size:=⟨_,rfl⟩
         rw [<- hp17] at hR17 ⊢
         obtain ⟨b0,b1,b2,b3⟩:=hR17.all
         have H17:=hid' hR17
         have n172:¬ p17 = p2:=by have:=HW9.out.r2.lt; omega
         clear hR17 hK17 hp17
         go_wp2_with fail
         refine (RValid_any (-(c:Int)) (ex + x + (z:Int)) _).mono ?_
         rintro e wA ⟨hkA,rfl⟩
         have HWA:=hid' (HW17.out.kept hkA)
         obtain ⟨b0,b1,b2,b3⟩:=(H17.out.kept hkA).all
         obtain ⟨r0,r1,r2,r3⟩:=HWA.out.r2.all
         clear hkA
         have HNUM:=hid' (num_near (n:=true) (D:=Dg) (x:=x + ex) (m:=-(c:Int)) (y:=ex + x + (z:Int)) HV.out.2.1 (by rw [<- HCV.out.1]; omega) (by rw [<- HCV.out.1]; rfl) (by have h1:=HCV.out.2; have h2:=trz_len Dg; omega))
         by_cases hok:okN (-(c:Int)) (ex + x + (z:Int)) = true
         ·
          rw [hok]
          have HR:=hid' (HNUM.out.trans (by rw [if_pos hok]))
          clear hok
          go_wp2_with fail
          exact bodyPost_ret (v:=.tuple #[.agg #[.int .i64 (-(c:Int)),.int .i64 (ex + x + (z:Int))],.int .i64 0]) (by simp [results,Tryz.results23,go_sem,r0,r1]) rfl ⟨Kept.put2 HWA.out.kp HP2.out _ _,by rw [HP.out,HR.out]; rfl⟩
         ·
          have hok':okN (-(c:Int)) (ex + x + (z:Int)) = false:=by simpa using hok
          rw [hok']
          have HR:=hid' (HNUM.out.trans (by rw [if_neg hok]))
          clear hok hok'
          go_wp2_with fail
          exact bodyPost_ret (v:=.tuple #[.agg #[.int .i64 0,.int .i64 0],.int .i64 30]) (by simp [results,Tryz.results23,go_sem,r0,r1]) rfl ⟨Kept.put2 HWA.out.kp HP2.out _ _,by rw [HP.out,HR.out]; rfl⟩
        ·
         rw [show i64r (c:Int) = 0 by unfold i64r; rw [if_neg (by omega)],show (i64e (c:Int) == 0) = false by unfold i64e; rw [if_neg (by omega)]; rfl]
         have HR:=hid' (num_far (n:=true) (D:=Dg) (x:=x + ex) HV.out.2.1 (by rw [<- HCV.out.1]; omega))
         obtain ⟨r0,r1,r2,r3⟩:=(HW9.out.kept ((Kept.refl w9).alloc (.cells #[.int .i64 0,.int .i64 (ex + x + (z:Int))] 26))).r2.all
         go_wp2_with fail
         exact bodyPost_ret (v:=.tuple #[.agg #[.int .i64 0,.int .i64 0],.int .i64 30]) (by simp [results,Tryz.results23,go_sem,r0,r1]) rfl ⟨Kept.put2 (HW9.out.kp.alloc _) HP2.out _ _,by rw [HP.out,HR.out]; rfl⟩
     ·
      have h46':((s[i].toNat:Int) == 46) = false:=by simpa using fun h => h46 (by omega)
      clear h46
      obtain ⟨Dg,hDg⟩:∃ D,D = part s.data.toList 1 q ++ part s.data.toList (q + 1) i:=⟨_,rfl⟩
      rw [<- hDg,HNB.out] at hsc
      have HW:=hid' HI.out.1
      rw [<- hDg] at HW
      rw [<- HI.out.2.2.2.2.2] at hsc
      have HX:=hid' hsc
      clear hsc hDg
      go_wp2_with fail
      refine (isDigit_any _ _).mono ?_
      rintro e w9 ⟨hk9,rfl⟩
      rw [hdi]
      have HW:=hid' (HW.out.kept hk9)
      clear hk9
      have hib:¬ ((i:Int) == (1:Int)) = true:=by simp; omega
      obtain ⟨u,hu⟩:∃ u:ByteArray,u = s.extract i s.size:=⟨_,rfl⟩
      have hul:u.data.toList = s.data.toList.drop i:=by rw [hu]; exact ext_drop s i
      have hus:u.size<=32:=by rw [size_list hul,List.length_drop,Array.length_toList]; have e:s.data.size = s.size:=rfl; omega
      go_wp2_with fail
      rw [<- hu]
      refine (tail_any u _ hus).mono ?_
      rintro e w5 ⟨hk5,hp⟩
      rw [hul] at hp
      have HW5:=hid' (HW.out.kept hk5)
      clear hk5 hu hul
      obtain ⟨r0,r1,r2,r3⟩:=HW5.out.r2.all
      obtain ⟨a0,a1,a2,a3⟩:=HW5.out.r7.all
      rcases hp with ⟨hp,rfl⟩ | ⟨x,hp,rfl,hx1,hx2⟩
      ·
       have HP:=hid' (parseOf_none (HX.out.2.2.2.1 hp))
       clear hp
       go_wp2_with fail
       exact bodyPost_ret (v:=.tuple #[.agg #[.int .i64 0,.int .i64 0],.int .i64 3]) (by simp [results,Tryz.results23,go_sem,r0,r1]) rfl ⟨Kept.put2 HW5.out.kp HP2.out _ _,by rw [HP.out]; rfl⟩
      have HP:=hid' (parseOf_some (HX.out.2.2.2.2 x hp))
      clear hp
      go_wp2_with fail
      refine (D.Sign_any sg ao k cap _ _ HW5.out.na (by have:=HW5.out.kb; omega)).mono ?_
      rintro e w6 ⟨rfl,hk6⟩
      have HW6:=hid' (HW5.out.kept hk6)
      clear hk6 r0 r1 r2 r3 a0 a1 a2 a3
      have hval:=trz_val HX.out.1
      by_cases hz:dv Dg = 0
      ·
       rw [show isgn ((dv Dg:Nat):Int) 0 = 0 by rw [hz]; rfl]
       have ht0:trz Dg = []:=by
        rcases hval.2 with ⟨h,_⟩ | ⟨_,h⟩
        ·
         exact h
        ·
         exfalso
         have h1:=hval.1
         rw [hz] at h1
         rcases Nat.mul_eq_zero.1 h1.symm with h2 | h2
         ·
          rw [h2] at h; exact h rfl
         ·
          exact absurd h2 (Nat.ne_of_gt (Nat.pow_pos (by decide)))
       have HR:=hid' (show numOf true Dg (x + ex) = some (0,0) by unfold numOf; rw [if_pos ht0])
       obtain ⟨r0,r1,r2,r3⟩:=HW6.out.r2.all
       clear hz ht0 hval
       go_wp2_with fail
       exact bodyPost_ret (v:=.tuple #[.agg #[.int .i64 0,.int .i64 0],.int .i64 0]) (by simp [results,Tryz.results23,go_sem,r0,r1]) rfl ⟨Kept.put2 HW6.out.kp HP2.out _ _,by rw [HP.out,HR.out]; rfl⟩
      have htn:trz Dg ≠ []/\dv (trz Dg) % 10 ≠ 0:=by
       rcases hval.2 with ⟨_,h⟩ | h
       ·
        exact absurd h hz
       ·
        exact h
      have hs0:(isgn ((dv Dg:Nat):Int) 0 == 0) = false:=by unfold isgn; rw [if_neg (by omega),if_neg (by omega)]; rfl
      generalize isgn ((dv Dg:Nat):Int) 0 = sg0 at hs0 ⊢
      have HV:=hid' (And.intro hval.1 (And.intro htn.1 htn.2))
      have hdlt:=dig_lt HX.out.1
      have hpw:10 ^ Dg.length<=10 ^ 32:=Nat.pow_le_pow_right (by decide) HX.out.2.2.1
      have HLT:Hid (dv Dg < 10 ^ 32/\0 < dv Dg):=⟨Nat.lt_of_lt_of_le hdlt hpw,Nat.pos_of_ne_zero hz⟩
      have hwx:IntKind.i64.wrap (ex + x) = ex + x:=wrap_i64' (by omega) (by omega)
      clear hval htn hz hdlt hpw
      go_wp2_with fail
      go_loopw [9] (fun vx wr => ∃ (c z:Nat) (sg:Bool) (ao:Option Addr) (k cap:Nat),vx = .int .i64 (ex + x + (z:Int))/\z<=32/\Hid (W3 w wr p2 p7 p8 sg ao k cap c aot nt capt/\dv Dg = c * 10 ^ z/\0 < c)) (fun vx _ => (400 - intOf vx).toNat)
      case atStart => exact ⟨dv Dg,0,sg,ao,k,cap,by simp,by omega,HW6.out,by simp,HLT.out.2⟩
      case round =>
       obtain ⟨c,z,sg,ao,k,cap,rfl,hz,HI⟩:=hrel
       obtain ⟨a0,a1,a2,a3⟩:=HI.out.1.r7.all
       obtain ⟨b0,b1,b2,b3⟩:=HI.out.1.r8.all
       go_wp2_with fail
       refine (D.Divide_any sg false ao aot k nt cap capt (c:Int) 10 _ HI.out.1.na HI.out.1.nten (by have:=HI.out.1.kb; omega) (by have:=HI.out.1.ntb; omega) (by decide)).mono ?_
       rintro e w7 ⟨hk7,s1,aq,kq,cq,t1,ar,kr,cr,rfl,nq,nr,lq,lr⟩
       have hKa:=((Kept.refl w7).alloc (.cells #[.bool s1,.slice aq kq cq] 76)).alloc (.cells #[.bool t1,.slice ar kr cr] 76)
       have hR13:=(Row2.alloc 76 w7 (.bool s1) (.slice aq kq cq)).kept ((Kept.refl _).alloc (.cells #[.bool t1,.slice ar kr cr] 76))
       have hR14:=Row2.alloc 76 (w7.alloc (.cells #[.bool s1,.slice aq kq cq] 76)) (.bool t1) (.slice ar kr cr)
       rw [World.size_alloc] at hR14
       have HW7:=hid' (HI.out.1.kept (hk7.trans hKa))
       have HQ:=hid' (And.intro (nq.kept hKa) (And.intro (nr.kept hKa) (And.intro lq lr)))
       clear a0 a1 a2 a3 b0 b1 b2 b3 nq nr lq lr
       go_upto_region 30 with fail
       generalize (w7.alloc (.cells #[.bool s1,.slice aq kq cq] 76)).alloc (.cells #[.bool t1,.slice ar kr cr] 76) = W7 at hR13 hR14 HW7 HQ hKa ⊢
       obtain ⟨p14,hp14⟩:∃ p,p = w7.heap.size + 1:=⟨_,rfl⟩
       rw [<- hp14] at hR14 ⊢
       obtain ⟨p13,hp13⟩:∃ p,p = w7.heap.size:=⟨_,rfl⟩
       rw [<- hp13] at hR13 ⊢
       have n713:¬ p7 = p13:=by have:=(HI.out.1.r7.kept hk7).lt; omega
       have n137:¬ p13 = p7:=fun h => n713 h.symm
       obtain ⟨b0,b1,b2,b3⟩:=hR14.all
       have H13:=hid' hR13
       clear hp13 hp14 hR13 hR14 hKa hk7
       go_wp2_with fail
       refine (D.Sign_any t1 ar kr cr _ _ HQ.out.2.1 (by have:=HQ.out.2.2.2; have:=HI.out.1.ntb; omega)).mono ?_
       rintro e w8 ⟨rfl,hk8⟩
       have HW8:=hid' (HW7.out.kept hk8)
       have HQ8:=hid' (HQ.out.1.kept hk8)
       have H13:=hid' (H13.out.kept hk8)
       clear hk8 b0 b1 b2 b3
       have etm:Int.tmod (c:Int) 10 = ((c % 10:Nat):Int):=rfl
       rw [etm]
       by_cases hr:c % 10 = 0
       ·
        rw [hr]
        rw [show isgn (((0:Nat):Int)) 0 = 0 by rfl]
        have hpz:10 ^ (z + 1)<=dv Dg:=by
         rw [HI.out.2.1,Nat.pow_succ,show c = c / 10 * 10 by omega,Nat.mul_assoc,Nat.mul_comm (10 ^ z) 10]
         exact Nat.le_mul_of_pos_left _ (by have:=HI.out.2.2; omega)
        have hz31:z + 1<=32:=by
         rcases Nat.lt_or_ge 32 (z + 1) with h | h
         ·
          exfalso
          have h1:10 ^ 32<=10 ^ (z + 1):=Nat.pow_le_pow_right (by decide) (by omega)
          have h2:=HLT.out.1
          omega
         ·
          exact h
        have HC:Hid (dv Dg = c / 10 * 10 ^ (z + 1)/\0 < c / 10):=⟨by rw [HI.out.2.1,Nat.pow_succ,Nat.mul_comm (10 ^ z) 10,<- Nat.mul_assoc,show c / 10 * 10 = c by omega],by have:=HI.out.2.2; omega⟩
        have hwz:IntKind.i64.wrap (ex + x + (z:Int) + 1) = ex + x + (z:Int) + 1:=wrap_i64' (by omega) (by omega)
        obtain ⟨b0,b1,b2,b3⟩:=H13.out.all
        obtain ⟨a0,a1,a2,a3⟩:=HW8.out.r7.all
        clear hr hpz etm
        go_wp2_with fail
        go_roundw
        case rel => exact ⟨c / 10,z + 1,s1,aq,kq,cq,by congr 1; omega,hz31,HW8.out.put (show D.NIs _ s1 (.slice aq kq cq) ((c / 10:Nat):Int) from HQ8.out) (by have:=HQ.out.2.2.1; have:=HI.out.1.kb; omega),HC.out⟩
        case measure => show (400 - (ex + x + (z:Int) + 1)).toNat < (400 - (ex + x + (z:Int))).toNat; omega
       ·
        have hs1:(isgn ((c % 10:Nat):Int) 0 == 0) = false:=by unfold isgn; rw [if_neg (by omega),if_neg (by omega)]; rfl
        generalize isgn ((c % 10:Nat):Int) 0 = sg1 at hs1 ⊢
        obtain ⟨hcv,hzv⟩:=ten_one (HI.out.2.1.symm.trans HV.out.1) hr HV.out.2.2
        have HCV:=hid' (And.intro hcv hzv)
        clear hr hcv hzv etm
        obtain ⟨a0,a1,a2,a3⟩:=HW8.out.r7.all
        go_wp2_with fail
        refine (D.Whole_any sg ao k cap (c:Int) _ HW8.out.na (by have:=HI.out.1.kb; omega)).mono ?_
        rintro e w9 ⟨rfl,hk9⟩
        have HW9:=hid' (HW8.out.kept hk9)
        clear hk9 a0 a1 a2 a3
        by_cases hsm:(c:Int)<=9223372036854775807
        ·
         rw [show i64r (c:Int) = (c:Int) by unfold i64r; rw [if_pos ⟨by omega,hsm⟩],show (i64e (c:Int) == 0) = true by unfold i64e; rw [if_pos ⟨by omega,hsm⟩]; rfl]
         have hwn:IntKind.i64.wrap (-(c:Int)) = -(c:Int):=wrap_i64' (by omega) (by omega)
         go_upto_region 37 with fail
         have hR17:=Row2.alloc 26 w9 (.int .i64 (-(c:Int))) (.int .i64 (ex + x + (z:Int)))
         have hK17:=(Kept.refl w9).alloc (.cells #[.int .i64 (-(c:Int)),.int .i64 (ex + x + (z:Int))] 26)
         have HW17:=hid' (HW9.out.kept hK17)
         generalize w9.alloc (.cells #[.int .i64 (-(c:Int)),.int .i64 (ex + x + (z:Int))] 26) = W9 at hR17 hK17 HW17 ⊢
         obtain ⟨p17,hp17⟩:∃ p,p = w9.heap.size:=⟨_,rfl⟩
         rw [<- hp17] at hR17 ⊢
         obtain ⟨b0,b1,b2,b3⟩:=hR17.all
         have H17:=hid' hR17
         have n172:¬ p17 = p2:=by have:=HW9.out.r2.lt; omega
         clear hR17 hK17 hp17
         go_wp2_with fail
         refine (RValid_any (-(c:Int)) (ex + x + (z:Int)) _).mono ?_
         rintro e wA ⟨hkA,rfl⟩
         have HWA:=hid' (HW17.out.kept hkA)
         obtain ⟨b0,b1,b2,b3⟩:=(H17.out.kept hkA).all
         obtain ⟨r0,r1,r2,r3⟩:=HWA.out.r2.all
         clear hkA
         have HNUM:=hid' (num_near (n:=true) (D:=Dg) (x:=x + ex) (m:=-(c:Int)) (y:=ex + x + (z:Int)) HV.out.2.1 (by rw [<- HCV.out.1]; omega) (by rw [<- HCV.out.1]; rfl) (by have h1:=HCV.out.2; have h2:=trz_len Dg; omega))
         by_cases hok:okN (-(c:Int)) (ex + x + (z:Int)) = true
         ·
          rw [hok]
          have HR:=hid' (HNUM.out.trans (by rw [if_pos hok]))
          clear hok
          go_wp2_with fail
          exact bodyPost_ret (v:=.tuple #[.agg #[.int .i64 (-(c:Int)),.int .i64 (ex + x + (z:Int))],.int .i64 0]) (by simp [results,Tryz.results23,go_sem,r0,r1]) rfl ⟨Kept.put2 HWA.out.kp HP2.out _ _,by rw [HP.out,HR.out]; rfl⟩
         ·
          have hok':okN (-(c:Int)) (ex + x + (z:Int)) = false:=by simpa using hok
          rw [hok']
          have HR:=hid' (HNUM.out.trans (by rw [if_neg hok]))
          clear hok hok'
          go_wp2_with fail
          exact bodyPost_ret (v:=.tuple #[.agg #[.int .i64 0,.int .i64 0],.int .i64 30]) (by simp [results,Tryz.results23,go_sem,r0,r1]) rfl ⟨Kept.put2 HWA.out.kp HP2.out _ _,by rw [HP.out,HR.out]; rfl⟩
        ·
         rw [show i64r (c:Int) = 0 by unfold i64r; rw [if_neg (by omega)],show (i64e (c:Int) == 0) = false by unfold i64e; rw [if_neg (by omega)]; rfl]
         have HR:=hid' (num_far (n:=true) (D:=Dg) (x:=x + ex) HV.out.2.1 (by rw [<- HCV.out.1]; omega))
         obtain ⟨r0,r1,r2,r3⟩:=(HW9.out.kept ((Kept.refl w9).alloc (.cells #[.int .i64 0,.int .i64 (ex + x + (z:Int))] 26))).r2.all
         go_wp2_with fail
         exact bodyPost_ret (v:=.tuple #[.agg #[.int .i64 0,.int .i64 0],.int .i64 30]) (by simp [results,Tryz.results23,go_sem,r0,r1]) rfl ⟨Kept.put2 (HW9.out.kp.alloc _) HP2.out _ _,by rw [HP.out,HR.out]; rfl⟩
   ·
    have hie:i = s.size:=by omega
    have hli:¬ (i:Int) < (s.size:Int):=by omega
    have hnd:∀ c,s.data.toList[i]? = some c->isd c = false:=fun c hc => by rw [List.getElem?_eq_none (by rw [Array.length_toList,hie]; exact Nat.le_refl _)] at hc; cases hc
    have hsc:=scan_point (L:=s.data.toList) (b:=1) (q:=q) (i:=i) (by rw [HNB.out]; rfl) (by rw [Array.length_toList]; exact hs32) (by rw [Array.length_toList]; exact hi1) hq0 (by omega) HI.out.2.1 HI.out.2.2.2.1 HI.out.2.2.1 hnd
    obtain ⟨Dg,hDg⟩:∃ D,D = part s.data.toList 1 q ++ part s.data.toList (q + 1) i:=⟨_,rfl⟩
    rw [<- hDg,HNB.out] at hsc
    have HW:=hid' HI.out.1
    rw [<- hDg] at HW
    rw [<- HI.out.2.2.2.2.2] at hsc
    have HX:=hid' hsc
    clear hsc hDg hie
    have hib:¬ ((i:Int) == (1:Int)) = true:=by simp; omega
    obtain ⟨u,hu⟩:∃ u:ByteArray,u = s.extract i s.size:=⟨_,rfl⟩
    have hul:u.data.toList = s.data.toList.drop i:=by rw [hu]; exact ext_drop s i
    have hus:u.size<=32:=by rw [size_list hul,List.length_drop,Array.length_toList]; have e:s.data.size = s.size:=rfl; omega
    go_wp2_with fail
    rw [<- hu]
    refine (tail_any u _ hus).mono ?_
    rintro e w5 ⟨hk5,hp⟩
    rw [hul] at hp
    have HW5:=hid' (HW.out.kept hk5)
    clear hk5 hu hul
    obtain ⟨r0,r1,r2,r3⟩:=HW5.out.r2.all
    obtain ⟨a0,a1,a2,a3⟩:=HW5.out.r7.all
    rcases hp with ⟨hp,rfl⟩ | ⟨x,hp,rfl,hx1,hx2⟩
    ·
     have HP:=hid' (parseOf_none (HX.out.2.2.2.1 hp))
     clear hp
     go_wp2_with fail
     exact bodyPost_ret (v:=.tuple #[.agg #[.int .i64 0,.int .i64 0],.int .i64 3]) (by simp [results,Tryz.results23,go_sem,r0,r1]) rfl ⟨Kept.put2 HW5.out.kp HP2.out _ _,by rw [HP.out]; rfl⟩
    have HP:=hid' (parseOf_some (HX.out.2.2.2.2 x hp))
    clear hp
    go_wp2_with fail
    refine (D.Sign_any sg ao k cap _ _ HW5.out.na (by have:=HW5.out.kb; omega)).mono ?_
    rintro e w6 ⟨rfl,hk6⟩
    have HW6:=hid' (HW5.out.kept hk6)
    clear hk6 r0 r1 r2 r3 a0 a1 a2 a3
    have hval:=trz_val HX.out.1
    by_cases hz:dv Dg = 0
    ·
     rw [show isgn ((dv Dg:Nat):Int) 0 = 0 by rw [hz]; rfl]
     have ht0:trz Dg = []:=by
      rcases hval.2 with ⟨h,_⟩ | ⟨_,h⟩
      ·
       exact h
      ·
       exfalso
       have h1:=hval.1
       rw [hz] at h1
       rcases Nat.mul_eq_zero.1 h1.symm with h2 | h2
       ·
        rw [h2] at h; exact h rfl
       ·
        exact absurd h2 (Nat.ne_of_gt (Nat.pow_pos (by decide)))
     have HR:=hid' (show numOf true Dg (x + ex) = some (0,0) by unfold numOf; rw [if_pos ht0])
     obtain ⟨r0,r1,r2,r3⟩:=HW6.out.r2.all
     clear hz ht0 hval
     go_wp2_with fail
     exact bodyPost_ret (v:=.tuple #[.agg #[.int .i64 0,.int .i64 0],.int .i64 0]) (by simp [results,Tryz.results23,go_sem,r0,r1]) rfl ⟨Kept.put2 HW6.out.kp HP2.out _ _,by rw [HP.out,HR.out]; rfl⟩
    have htn:trz Dg ≠ []/\dv (trz Dg) % 10 ≠ 0:=by
     rcases hval.2 with ⟨_,h⟩ | h
     ·
      exact absurd h hz
     ·
      exact h
    have hs0:(isgn ((dv Dg:Nat):Int) 0 == 0) = false:=by unfold isgn; rw [if_neg (by omega),if_neg (by omega)]; rfl
    generalize isgn ((dv Dg:Nat):Int) 0 = sg0 at hs0 ⊢
    have HV:=hid' (And.intro hval.1 (And.intro htn.1 htn.2))
    have hdlt:=dig_lt HX.out.1
    have hpw:10 ^ Dg.length<=10 ^ 32:=Nat.pow_le_pow_right (by decide) HX.out.2.2.1
    have HLT:Hid (dv Dg < 10 ^ 32/\0 < dv Dg):=⟨Nat.lt_of_lt_of_le hdlt hpw,Nat.pos_of_ne_zero hz⟩
    have hwx:IntKind.i64.wrap (ex + x) = ex + x:=wrap_i64' (by omega) (by omega)
    clear hval htn hz hdlt hpw
    go_wp2_with fail
    go_loopw [9] (fun vx wr => ∃ (c z:Nat) (sg:Bool) (ao:Option Addr) (k cap:Nat),vx = .int .i64 (ex + x + (z:Int))/\z<=32/\Hid (W3 w wr p2 p7 p8 sg ao k cap c aot nt capt/\dv Dg = c * 10 ^ z/\0 < c)) (fun vx _ => (400 - intOf vx).toNat)
    case atStart => exact ⟨dv Dg,0,sg,ao,k,cap,by simp,by omega,HW6.out,by simp,HLT.out.2⟩
    case round =>
     obtain ⟨c,z,sg,ao,k,cap,rfl,hz,HI⟩:=hrel
     obtain ⟨a0,a1,a2,a3⟩:=HI.out.1.r7.all
     obtain ⟨b0,b1,b2,b3⟩:=HI.out.1.r8.all
     go_wp2_with fail
     refine (D.Divide_any sg false ao aot k nt cap capt (c:Int) 10 _ HI.out.1.na HI.out.1.nten (by have:=HI.out.1.kb; omega) (by have:=HI.out.1.ntb; omega) (by decide)).mono ?_
     rintro e w7 ⟨hk7,s1,aq,kq,cq,t1,ar,kr,cr,rfl,nq,nr,lq,lr⟩
     have hKa:=((Kept.refl w7).alloc (.cells #[.bool s1,.slice aq kq cq] 76)).alloc (.cells #[.bool t1,.slice ar kr cr] 76)
     have hR13:=(Row2.alloc 76 w7 (.bool s1) (.slice aq kq cq)).kept ((Kept.refl _).alloc (.cells #[.bool t1,.slice ar kr cr] 76))
     have hR14:=Row2.alloc 76 (w7.alloc (.cells #[.bool s1,.slice aq kq cq] 76)) (.bool t1) (.slice ar kr cr)
     rw [World.size_alloc] at hR14
     have HW7:=hid' (HI.out.1.kept (hk7.trans hKa))
     have HQ:=hid' (And.intro (nq.kept hKa) (And.intro (nr.kept hKa) (And.intro lq lr)))
     clear a0 a1 a2 a3 b0 b1 b2 b3 nq nr lq lr
     go_upto_region 30 with fail
     generalize (w7.alloc (.cells #[.bool s1,.slice aq kq cq] 76)).alloc (.cells #[.bool t1,.slice ar kr cr] 76) = W7 at hR13 hR14 HW7 HQ hKa ⊢
     obtain ⟨p14,hp14⟩:∃ p,p = w7.heap.size + 1:=⟨_,rfl⟩
     rw [<- hp14] at hR14 ⊢
     obtain ⟨p13,hp13⟩:∃ p,p = w7.heap.size:=⟨_,rfl⟩
     rw [<- hp13] at hR13 ⊢
     have n713:¬ p7 = p13:=by have:=(HI.out.1.r7.kept hk7).lt; omega
     have n137:¬ p13 = p7:=fun h => n713 h.symm
     obtain ⟨b0,b1,b2,b3⟩:=hR14.all
     have H13:=hid' hR13
     clear hp13 hp14 hR13 hR14 hKa hk7
     go_wp2_with fail
     refine (D.Sign_any t1 ar kr cr _ _ HQ.out.2.1 (by have:=HQ.out.2.2.2; have:=HI.out.1.ntb; omega)).mono ?_
     rintro e w8 ⟨rfl,hk8⟩
     have HW8:=hid' (HW7.out.kept hk8)
     have HQ8:=hid' (HQ.out.1.kept hk8)
     have H13:=hid' (H13.out.kept hk8)
     clear hk8 b0 b1 b2 b3
     have etm:Int.tmod (c:Int) 10 = ((c % 10:Nat):Int):=rfl
     rw [etm]
     by_cases hr:c % 10 = 0
     ·
      rw [hr]
      rw [show isgn (((0:Nat):Int)) 0 = 0 by rfl]
      have hpz:10 ^ (z + 1)<=dv Dg:=by
       rw [HI.out.2.1,Nat.pow_succ,show c = c / 10 * 10 by omega,Nat.mul_assoc,Nat.mul_comm (10 ^ z) 10]
       exact Nat.le_mul_of_pos_left _ (by have:=HI.out.2.2; omega)
      have hz31:z + 1<=32:=by
       rcases Nat.lt_or_ge 32 (z + 1) with h | h
       ·
        exfalso
        have h1:10 ^ 32<=10 ^ (z + 1):=Nat.pow_le_pow_right (by decide) (by omega)
        have h2:=HLT.out.1
        omega
       ·
        exact h
      have HC:Hid (dv Dg = c / 10 * 10 ^ (z + 1)/\0 < c / 10):=⟨by rw [HI.out.2.1,Nat.pow_succ,Nat.mul_comm (10 ^ z) 10,<- Nat.mul_assoc,show c / 10 * 10 = c by omega],by have:=HI.out.2.2; omega⟩
      have hwz:IntKind.i64.wrap (ex + x + (z:Int) + 1) = ex + x + (z:Int) + 1:=wrap_i64' (by omega) (by omega)
      obtain ⟨b0,b1,b2,b3⟩:=H13.out.all
      obtain ⟨a0,a1,a2,a3⟩:=HW8.out.r7.all
      clear hr hpz etm
      go_wp2_with fail
      go_roundw
      case rel => exact ⟨c / 10,z + 1,s1,aq,kq,cq,by congr 1; omega,hz31,HW8.out.put (show D.NIs _ s1 (.slice aq kq cq) ((c / 10:Nat):Int) from HQ8.out) (by have:=HQ.out.2.2.1; have:=HI.out.1.kb; omega),HC.out⟩
      case measure => show (400 - (ex + x + (z:Int) + 1)).toNat < (400 - (ex + x + (z:Int))).toNat; omega
     ·
      have hs1:(isgn ((c % 10:Nat):Int) 0 == 0) = false:=by unfold isgn; rw [if_neg (by omega),if_neg (by omega)]; rfl
      generalize isgn ((c % 10:Nat):Int) 0 = sg1 at hs1 ⊢
      obtain ⟨hcv,hzv⟩:=ten_one (HI.out.2.1.symm.trans HV.out.1) hr HV.out.2.2
      have HCV:=hid' (And.intro hcv hzv)
      clear hr hcv hzv etm
      obtain ⟨a0,a1,a2,a3⟩:=HW8.out.r7.all
      go_wp2_with fail
      refine (D.Whole_any sg ao k cap (c:Int) _ HW8.out.na (by have:=HI.out.1.kb; omega)).mono ?_
      rintro e w9 ⟨rfl,hk9⟩
      have HW9:=hid' (HW8.out.kept hk9)
      clear hk9 a0 a1 a2 a3
      by_cases hsm:(c:Int)<=9223372036854775807
      ·
       rw [show i64r (c:Int) = (c:Int) by unfold i64r; rw [if_pos ⟨by omega,hsm⟩],show (i64e (c:Int) == 0) = true by unfold i64e; rw [if_pos ⟨by omega,hsm⟩]; rfl]
       have hwn:IntKind.i64.wrap (-(c:Int)) = -(c:Int):=wrap_i64' (by omega) (by omega)
       go_upto_region 37 with fail
       have hR17:=Row2.alloc 26 w9 (.int .i64 (-(c:Int))) (.int .i64 (ex + x + (z:Int)))
       have hK17:=(Kept.refl w9).alloc (.cells #[.int .i64 (-(c:Int)),.int .i64 (ex + x + (z:Int))] 26)
       have HW17:=hid' (HW9.out.kept hK17)
       generalize w9.alloc (.cells #[.int .i64 (-(c:Int)),.int .i64 (ex + x + (z:Int))] 26) = W9 at hR17 hK17 HW17 ⊢
       obtain ⟨p17,hp17⟩:∃ p,p = w9.heap.size:=⟨_,rfl⟩
       rw [<- hp17] at hR17 ⊢
       obtain ⟨b0,b1,b2,b3⟩:=hR17.all
       have H17:=hid' hR17
       have n172:¬ p17 = p2:=by have:=HW9.out.r2.lt; omega
       clear hR17 hK17 hp17
       go_wp2_with fail
       refine (RValid_any (-(c:Int)) (ex + x + (z:Int)) _).mono ?_
       rintro e wA ⟨hkA,rfl⟩
       have HWA:=hid' (HW17.out.kept hkA)
       obtain ⟨b0,b1,b2,b3⟩:=(H17.out.kept hkA).all
       obtain ⟨r0,r1,r2,r3⟩:=HWA.out.r2.all
       clear hkA
       have HNUM:=hid' (num_near (n:=true) (D:=Dg) (x:=x + ex) (m:=-(c:Int)) (y:=ex + x + (z:Int)) HV.out.2.1 (by rw [<- HCV.out.1]; omega) (by rw [<- HCV.out.1]; rfl) (by have h1:=HCV.out.2; have h2:=trz_len Dg; omega))
       by_cases hok:okN (-(c:Int)) (ex + x + (z:Int)) = true
       ·
        rw [hok]
        have HR:=hid' (HNUM.out.trans (by rw [if_pos hok]))
        clear hok
        go_wp2_with fail
        exact bodyPost_ret (v:=.tuple #[.agg #[.int .i64 (-(c:Int)),.int .i64 (ex + x + (z:Int))],.int .i64 0]) (by simp [results,Tryz.results23,go_sem,r0,r1]) rfl ⟨Kept.put2 HWA.out.kp HP2.out _ _,by rw [HP.out,HR.out]; rfl⟩
       ·
        have hok':okN (-(c:Int)) (ex + x + (z:Int)) = false:=by simpa using hok
        rw [hok']
        have HR:=hid' (HNUM.out.trans (by rw [if_neg hok]))
        clear hok hok'
        go_wp2_with fail
        exact bodyPost_ret (v:=.tuple #[.agg #[.int .i64 0,.int .i64 0],.int .i64 30]) (by simp [results,Tryz.results23,go_sem,r0,r1]) rfl ⟨Kept.put2 HWA.out.kp HP2.out _ _,by rw [HP.out,HR.out]; rfl⟩
      ·
       rw [show i64r (c:Int) = 0 by unfold i64r; rw [if_neg (by omega)],show (i64e (c:Int) == 0) = false by unfold i64e; rw [if_neg (by omega)]; rfl]
       have HR:=hid' (num_far (n:=true) (D:=Dg) (x:=x + ex) HV.out.2.1 (by rw [<- HCV.out.1]; omega))
       obtain ⟨r0,r1,r2,r3⟩:=(HW9.out.kept ((Kept.refl w9).alloc (.cells #[.int .i64 0,.int .i64 (ex + x + (z:Int))] 26))).r2.all
       go_wp2_with fail
       exact bodyPost_ret (v:=.tuple #[.agg #[.int .i64 0,.int .i64 0],.int .i64 30]) (by simp [results,Tryz.results23,go_sem,r0,r1]) rfl ⟨Kept.put2 (HW9.out.kp.alloc _) HP2.out _ _,by rw [HP.out,HR.out]; rfl⟩
end Q
end Go.Proofs.YtihnknnddldgiaaGreatDoor

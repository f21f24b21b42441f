/- Lemmas. -/
import Derived.Test.YtihnknnddldgiaaGreatDoorGao
import Derived.Test.YtihnknnddldgiaaGreatDoorGak
import Derived.Test.YtihnknnddldgiaaGreatDoorGbg
import Derived.Test.YtihnknnddldgiaaGreatDoorGag
import Derived.Test.YtihnknnddldgiaaGreatDoorGaa
import Derived.Test.YtihnknnddldgiaaGreatDoorGbj
import Derived.Test.YtihnknnddldgiaaGreatDoorGaw
import Derived.Test.YtihnknnddldgiaaGreatDoorGbh
namespace Go.Proofs.YtihnknnddldgiaaGreatDoor
open Go.RowKit
namespace V
open Q (hid')
open X (bs bs_list bs_size)
theorem plain_step {l:List UInt8} (h1:1<=l.length):Plain l ↔ (¬ (l.getD 0 0 = 48/\1 < l.length)/\digs l = true):=by
 have hd:digs l = true ↔ Dig l:=by
  constructor
  ·
   exact digs_dig
  ·
   intro h
   unfold digs
   rw [Bool.not_eq_true',List.any_eq_false]
   intro c hc
   have:=h c hc
   simp
   omega
 rw [hd]
 constructor
 ·
  rintro (rfl | h)
  ·
   exact ⟨by decide,fun c hc => by simp at hc; subst hc; decide⟩
  ·
   refine ⟨fun e => ?_,h.dig⟩
   cases l with
   | nil => simp at h1
   | cons c t => exact h.head c rfl (by rw [show c = 48 from e.1]; rfl)
 ·
  rintro ⟨h2,h3⟩
  cases l with
  | nil => simp at h1
  | cons c t =>
   by_cases hc:c = 48
   ·
    left
    subst hc
    cases t with
    | nil => rfl
    | cons d t => exact absurd ⟨rfl,by simp⟩ h2
   ·
    right
    exact ⟨by simp,h3,fun x hx e => hc (by
     have:c = x:=by simpa using hx
     rw [this]
     exact UInt8.toNat_inj.1 e)⟩
theorem num_len {w:World} {sg:Bool} {ao:Option Addr} {k cap:Nat} {z:Int} (h:D.NIs w sg (.slice ao k cap) z) (h0:0<=z) (h1:z < 18446744073709551616):k<=4:=by
 obtain ⟨d,hs,hr,hz⟩:=h
 have e:=hs.len
 subst e
 have hv:D.val d = z.natAbs:=by rw [<- hz,D.natAbs_int]
 exact D.len_of_lt hr.tr (by rw [hv,show (65536:Nat) ^ 4 = 18446744073709551616 from rfl]; omega)
def stepR (l:List UInt8):Int:=if (stepT l).2 = true then (stepT l).1 else 0
set_option maxRecDepth 100000 in
set_option maxHeartbeats 8000000 in
theorem step_of (s:ByteArray) (w:World) (G:Prop) (z:Int) (hN:∀ V,Calls Tryz.prog 57 #[.string s] V fun e w' => Kept V w'/\D.NumR w' e G z) (hs:s.size<=1048576)
  (r1:Int) (r2:Bool) (hno:(¬ G ∨ 10 < s.size ∨ z < 0 ∨ 1000000000 < z)->r1 = 0/\r2 = false) (hyes:(G/\s.size<=10/\0<=z/\z<=1000000000)->r1 = z/\r2 = true) :
  Calls Tryz.prog 24 #[.string s] w fun e w' => Kept w w'/\e = .returned (.tuple #[.int .i64 r1,.bool r2]):=by
 have HNR:=hid' hN
 have HNO:=hid' hno
 have HYE:=hid' hyes
 clear hN hno hyes
 go_enter Tryz.func24,Tryz.ntmps24
 go_wp2_with fail
 refine (HNR.out _).mono ?_
 rintro e w1 ⟨hk1,hres⟩
 have HK1:=hid' hk1
 clear hk1
 rcases hres with ⟨hG,sg,ao,k,cap,rfl,hn,hkl⟩ | ⟨hG,rfl⟩
 rotate_left
 ·
  have HF:=hid' (HNO.out (.inl hG))
  clear hG
  go_upto_region 2 with fail
  have kB:=(Kept.refl w1).alloc (.cells #[.bool false,.slice none 0 0] 76)
  generalize w1.alloc (.cells #[.bool false,.slice none 0 0] 76) = W at kB ⊢
  have KT:=kB.trans ((Kept.refl W).drew)
  refine wp_region_held_drew (S:=fun _ => True) (by kernel_rfl) trivial (fun hHeld => ?_)
  generalize W.drew = Wd at KT ⊢
  refine tk 0 hHeld ?_
  refine tk 1 hHeld ?_
  refine tk 2 hHeld ?_
  refine sk 3 hHeld ?_
  refine sk 4 hHeld ?_
  refine sk 5 hHeld ?_
  refine tk 6 hHeld ?_
  refine tk 7 hHeld ?_
  refine sk 8 hHeld ?_
  refine sk 9 hHeld ?_
  refine sk 10 hHeld ?_
  refine tk 11 hHeld ?_
  refine tk 12 hHeld ?_
  refine sk 13 hHeld ?_
  refine sk 14 hHeld ?_
  refine sk 15 hHeld ?_
  refine sk 16 hHeld ?_
  refine tk 17 hHeld ?_
  refine dn ?_
  go_wp2_with fail
  go_ret2
  exact ⟨HK1.out.trans KT,by rw [HF.out.1,HF.out.2]; rfl⟩
 have HN:=hid' hn
 clear hn
 go_upto_region 2 with fail
 have kB:=(Kept.refl w1).alloc (.cells #[.bool sg,.slice ao k cap] 76)
 have hB:=RowL.alloc 76 w1 [.bool sg,.slice ao k cap]
 obtain ⟨p,hp⟩:∃ q,q = w1.heap.size:=⟨_,rfl⟩
 generalize w1.alloc (.cells #[.bool sg,.slice ao k cap] 76) = W at kB hB ⊢
 rw [<- hp] at hB ⊢
 clear hp
 have HB:=hid' hB
 have KT:=kB.trans ((Kept.refl W).drew)
 have HBd:=hid' (HB.out.kept ((Kept.refl W).drew))
 have sS:=hid' (fun (V:World) (K:RowL 76 V p [.bool sg,.slice ao k cap]) => And.intro (K.cell 0 (.bool sg)) (K.cell 1 (.slice ao k cap)))
 clear kB hB HB
 by_cases h10:10 < s.size
 ·
  have h10i:(10:Int) < (s.size:Int):=by omega
  have HF:=hid' (HNO.out (.inr (.inl h10)))
  refine wp_region_held_drew (S:=fun w' => w'.cell? ⟨p,0,none⟩ = some (.bool sg)/\w'.cell? ⟨p,1,none⟩ = some (.slice ao k cap)) (by kernel_rfl) (sS.out _ HBd.out) (fun hHeld => ?_)
  generalize W.drew = Wd at KT HBd hHeld ⊢
  refine tk 0 hHeld ?_
  refine tk 1 hHeld ?_
  refine tk 2 hHeld ?_
  refine tk 3 hHeld ?_
  refine tk 4 hHeld ?_
  refine tk 5 hHeld ?_
  refine tk 6 hHeld ?_
  refine tk 7 hHeld ?_
  refine sk 8 hHeld ?_
  refine sk 9 hHeld ?_
  refine sk 10 hHeld ?_
  refine tk 11 hHeld ?_
  refine tk 12 hHeld ?_
  refine sk 13 hHeld ?_
  refine sk 14 hHeld ?_
  refine sk 15 hHeld ?_
  refine sk 16 hHeld ?_
  refine tk 17 hHeld ?_
  refine dn ?_
  go_wp2_with fail
  go_ret2
  exact ⟨HK1.out.trans KT,by rw [HF.out.1,HF.out.2]; rfl⟩
 have h10i:¬ (10:Int) < (s.size:Int):=by omega
 by_cases hz:z < 0
 ·
  have HF:=hid' (HNO.out (.inr (.inr (.inl hz))))
  refine wp_region_held_drew (S:=fun w' => w'.cell? ⟨p,0,none⟩ = some (.bool sg)/\w'.cell? ⟨p,1,none⟩ = some (.slice ao k cap)) (by kernel_rfl) (sS.out _ HBd.out) (fun hHeld => ?_)
  generalize W.drew = Wd at KT HBd hHeld ⊢
  refine tk 0 hHeld ?_
  refine tk 1 hHeld ?_
  refine tk 2 hHeld ?_
  refine tk 3 hHeld ?_
  refine tk 4 hHeld ?_
  refine tk 5 hHeld ?_
  refine tk 6 hHeld ?_
  refine tk 7 hHeld ?_
  refine tk 8 hHeld ?_
  refine rdy 9 fun K hK => ?_
  go_simp
  have hsg:=D.Sign_any sg ao k cap z Wd (HN.out.kept KT) (by omega)
  rw [D.isgn_low hz] at hsg
  refine hsg.mono ?_
  rintro e w2 ⟨rfl,hk2⟩
  have KT:=KT.trans hk2
  refine hK.out _ _ (sS.out _ (HBd.out.kept hk2)) (fun hHeld => ?_)
  clear hK K hk2 hsg
  refine tk 10 hHeld ?_
  refine tk 11 hHeld ?_
  refine tk 12 hHeld ?_
  refine sk 13 hHeld ?_
  refine sk 14 hHeld ?_
  refine sk 15 hHeld ?_
  refine sk 16 hHeld ?_
  refine tk 17 hHeld ?_
  refine dn ?_
  go_wp2_with fail
  go_ret2
  exact ⟨HK1.out.trans KT,by rw [HF.out.1,HF.out.2]; rfl⟩
 have hzp:0<=z:=by omega
 have hsz:isgn z 0 = 0 ∨ isgn z 0 = 1:=D.isgn_ge2 hzp
 obtain ⟨sz,hsz0⟩:∃ t,t = isgn z 0:=⟨_,rfl⟩
 rw [<- hsz0] at hsz
 have hszn:¬ sz < 0:=by omega
 have HSZ:=hid' hsz0
 clear hsz0 hsz
 refine wp_region_held_drew (S:=fun w' => w'.cell? ⟨p,0,none⟩ = some (.bool sg)/\w'.cell? ⟨p,1,none⟩ = some (.slice ao k cap)) (by kernel_rfl) (sS.out _ HBd.out) (fun hHeld => ?_)
 generalize W.drew = Wd at KT HBd hHeld ⊢
 refine tk 0 hHeld ?_
 refine tk 1 hHeld ?_
 refine tk 2 hHeld ?_
 refine tk 3 hHeld ?_
 refine tk 4 hHeld ?_
 refine tk 5 hHeld ?_
 refine tk 6 hHeld ?_
 refine tk 7 hHeld ?_
 refine tk 8 hHeld ?_
 refine rdy 9 fun K hK => ?_
 go_simp
 have hsg:=D.Sign_any sg ao k cap z Wd (HN.out.kept KT) (by omega)
 rw [<- HSZ.out] at hsg
 refine hsg.mono ?_
 rintro e w2 ⟨rfl,hk2⟩
 have KT:=KT.trans hk2
 have HBd:=hid' (HBd.out.kept hk2)
 refine hK.out _ _ (sS.out _ HBd.out) (fun hHeld => ?_)
 clear hK K hk2 hsg
 refine tk 10 hHeld ?_
 refine tk 11 hHeld ?_
 refine tk 12 hHeld ?_
 refine tk 13 hHeld ?_
 refine rdy 14 fun K hK => ?_
 go_simp
 refine (D.small_nat 1000000000 _ trivial (by omega)).mono ?_
 rintro e w3 ⟨hk3,ao2,k2,cap2,rfl,hN2,hl2⟩
 have KT:=KT.trans hk3
 have HBd:=hid' (HBd.out.kept hk3)
 have HN2:=hid' hN2
 refine hK.out _ _ (sS.out _ HBd.out) (fun hHeld => ?_)
 clear hK K hk3 hN2
 refine rdy 15 fun K hK => ?_
 go_simp
 have hhd:=D.Held_any sg false ao ao2 k k2 cap cap2 z 1000000000 w3 (HN.out.kept KT) HN2.out (by omega) (by omega)
 by_cases hle:z<=1000000000
 ·
  have HF:=hid' (HYE.out ⟨hG,by omega,hzp,hle⟩)
  have hh:isgn z 1000000000<=0:=D.isgn_le hle
  obtain ⟨hv,hhv⟩:∃ t,t = isgn z 1000000000:=⟨_,rfl⟩
  rw [<- hhv] at hhd hh
  have hhn:¬ 0 < hv:=by omega
  clear hhv hh
  refine hhd.mono ?_
  rintro e w4 ⟨rfl,hk4⟩
  have KT:=KT.trans hk4
  have HBd:=hid' (HBd.out.kept hk4)
  refine hK.out _ _ (sS.out _ HBd.out) (fun hHeld => ?_)
  clear hK K hk4 hhd
  refine tk 16 hHeld ?_
  refine tk 17 hHeld ?_
  refine dn ?_
  have g0:=HBd.out.cell 0 (.bool sg)
  have g1:=HBd.out.cell 1 (.slice ao k cap)
  have hkl4:k<=4:=num_len (HN.out.kept KT) hzp (by omega)
  have hwh:=D.Whole_any sg ao k cap z w4 (HN.out.kept KT) (by omega)
  rw [show i64r z = z by unfold i64r; rw [if_pos (by omega)]] at hwh
  generalize (i64e z == 0) = be at hwh
  go_wp2_with fail
  refine hwh.mono ?_
  rintro e w5 ⟨rfl,hk5⟩
  have HK5:=hid' (KT.trans hk5)
  clear hk5 hwh g0 g1
  go_wp2_with fail
  go_ret2
  exact ⟨HK1.out.trans HK5.out,by rw [HF.out.1,HF.out.2]; rfl⟩
 ·
  have HF:=hid' (HNO.out (.inr (.inr (.inr (by omega)))))
  have hh:isgn z 1000000000 = 1:=D.isgn_up (by omega)
  rw [hh] at hhd
  refine hhd.mono ?_
  rintro e w4 ⟨rfl,hk4⟩
  have KT:=KT.trans hk4
  have HBd:=hid' (HBd.out.kept hk4)
  refine hK.out _ _ (sS.out _ HBd.out) (fun hHeld => ?_)
  clear hK K hk4 hhd hh
  refine tk 16 hHeld ?_
  refine tk 17 hHeld ?_
  refine dn ?_
  go_wp2_with fail
  go_ret2
  exact ⟨HK1.out.trans KT,by rw [HF.out.1,HF.out.2]; rfl⟩
theorem digs_minus {l:List UInt8} (h0:0 < l.length) (h:l.getD 0 0 = 45):digs l = false:=by
 cases l with
 | nil => simp at h0
 | cons c t =>
  have:c = 45:=h
  subst this
  rfl
theorem rstep_any (s:ByteArray) (w:World) (hs:s.size<=1048576) :
  Calls Tryz.prog 24 #[.string s] w fun e w' => Kept w w'/\e = .returned (.tuple #[.int .i64 (stepR s.data.toList),.bool (stepT s.data.toList).2]):=by
 have hl:s.data.toList.length = s.size:=by rw [Array.length_toList]; rfl
 by_cases hm:∃ h:0 < s.size,s[0].toNat = 45
 ·
  obtain ⟨h0,h45⟩:=hm
  have hg:s.data.toList.getD 0 0 = 45:=by
   rw [List.getD_eq_getElem?_getD,bl_at' s 0 h0]
   exact UInt8.toNat_inj.1 h45
  have hst:stepT s.data.toList = (0,false):=by
   unfold stepT
   rw [if_neg (fun h => by rw [digs_minus (by omega) hg] at h; exact absurd h.2.2.2 (by decide))]
  refine step_of s w _ _ (fun V => D.number_minus s V hs h0 h45) hs _ _ (fun _ => ?_) (fun h => ?_)
  ·
   unfold stepR
   rw [hst]
   exact ⟨rfl,rfl⟩
  ·
   exfalso
   have:=h.1.pos
   omega
 ·
  refine step_of s w _ _ (fun V => D.number_pos s V hs (fun h e => hm ⟨h,e⟩)) hs _ _ (fun h => ?_) (fun h => ?_)
  ·
   have hst:(stepT s.data.toList).2 = false:=by
    unfold stepT
    split
    ·
     rename_i h9
     rcases h with h | h | h | h
     ·
      exact absurd ((plain_step h9.1).2 ⟨h9.2.2.1,h9.2.2.2⟩) h
     ·
      omega
     ·
      omega
     ·
      exact decide_eq_false (by omega)
    ·
     rfl
   unfold stepR
   rw [hst]
   exact ⟨rfl,rfl⟩
  ·
   have h1:1<=s.data.toList.length:=by
    rcases h.1 with e | e
    ·
     rw [e]; decide
    ·
     exact List.length_pos_iff.2 e.ne
   have hp:=(plain_step h1).1 h.1
   have hst:stepT s.data.toList = ((dv s.data.toList:Int),true):=by
    unfold stepT
    rw [if_pos ⟨h1,by omega,hp.1,hp.2⟩,decide_eq_true h.2.2.2]
   unfold stepR
   rw [hst]
   exact ⟨rfl,rfl⟩
open Q (hid' parseOf okN)
open X (OwnS RS strs bs_list bs_size)
theorem on_err {vk:Bool} {F:List (UInt8 × List UInt8)} {p q:Pt} {k:Nat} {e:Int} (h:onAll vk p F = onAll vk q (F.drop k)) (hk:k < F.length) (hs:onStep vk q F[k].1 F[k].2 = .error e):onAll vk p F = .error e:=by
 rw [h,List.drop_eq_getElem_cons hk,onAll,hs]
theorem on_ok {vk:Bool} {F:List (UInt8 × List UInt8)} {p q r:Pt} {k:Nat} (h:onAll vk p F = onAll vk q (F.drop k)) (hk:k < F.length) (hs:onStep vk q F[k].1 F[k].2 = .ok r):onAll vk p F = onAll vk r (F.drop (k + 1)):=by
 rw [h,List.drop_eq_getElem_cons hk,onAll,hs]
def rbodyC (ws:List (List UInt8)):Except Int Pt->Except Int Cd
 | .error e => .error e
 | .ok p => rendC (cardS ws p)
theorem rread_body {ws:List (List UInt8)} (h1:ws ≠ []) (h2:devB (ws.getD 0 []) = true) (h3:formC (headC ws) ws ≠ []) (h4:ws.length = (formC (headC ws) ws).length + 1):readC ws = rbodyC ws (onAll (vkC (headC ws)) Pt.zero ((formC (headC ws) ws).zip (ws.drop 1))):=by
 rw [<- rread_eq]
 unfold rreadC
 rw [if_neg (by rintro (e | e); exact h1 e; rw [h2] at e; cases e),if_neg (by rintro (e | e); exact h3 e; exact e h4)]
 cases onAll (vkC (headC ws)) Pt.zero ((formC (headC ws) ws).zip (ws.drop 1)) <;> rfl
theorem ite_len {P:Prop} [Decidable P] {a b:List UInt8} (ha:a.length<=40) (hb:b.length<=40):(if P then a else b).length<=40:=by
 by_cases h:P
 ·
  rw [if_pos h]; exact ha
 ·
  rw [if_neg h]; exact hb
theorem rep_len40 (a l:List UInt8) (k:Nat) (h:a.length + k * l.length<=40):(a ++ Lib.repeatL l k).length<=40:=by rw [List.length_append,rep_len]; exact h
theorem formC_len (c:UInt8) (ws:List (List UInt8)):(formC c ws).length<=40:=by
 unfold formC
 refine ite_len (by decide) (ite_len (by decide) (ite_len (by decide) (ite_len (by decide) (ite_len (by decide) ?_))))
 by_cases hx:c = 120
 ·
  rw [if_pos hx]
  by_cases h2:ws.length - 2 < 1 ∨ 8 < ws.length - 2
  ·
   rw [if_pos h2]; exact Nat.zero_le _
  ·
   rw [if_neg h2,List.length_append,rep_len]
   show (ws.length - 2) * 1 + 1<=40
   omega
 rw [if_neg hx]
 refine ite_len (Nat.zero_le _) (ite_len (by decide) (ite_len (by decide) (ite_len (ite_len (Nat.zero_le _) (rep_len40 _ _ _ ?_)) (ite_len (ite_len (Nat.zero_le _) (rep_len40 _ _ _ ?_)) (by decide)))))
 ·
  show 3 + min ((ws.length - 3) / 2) 16 * 2<=40
  omega
 ·
  show 3 + min (ws.length - 4) 16 * 1<=40
  omega
theorem cshape_novalue {c:UInt8} (ws:List (List UInt8)) (hk:c ∈ kindsL) (hw:waveC c = false) (hv:valueC c = false):(cshape c ws).count 120 = 0:=by
 unfold kindsL at hk
 simp only [List.mem_cons,List.not_mem_nil,or_false] at hk
 rcases hk with rfl | rfl | rfl | rfl | rfl | rfl | rfl | rfl | rfl | rfl | rfl | rfl | rfl
 all_goals first | (exact absurd hw (by decide)) | (exact absurd hv (by decide)) | skip
 ·
  rfl
 ·
  rfl
 ·
  show (46 :: (Lib.repeatL [110] (min (max (ws.length - 2) 1) 8) ++ [109])).count 120 = 0
  rw [rep_one,List.count_eq_zero]
  simp
theorem cardS_plain {ws:List (List UInt8)} {p:Pt} (h1:ws ≠ []) (h2:devB (ws.getD 0 []) = true) (h3:formC (headC ws) ws ≠ []) (h4:ws.length = (formC (headC ws) ws).length + 1) (hw:waveC (headC ws) = false)
  (hp:onAll (vkC (headC ws)) Pt.zero ((formC (headC ws) ws).zip (ws.drop 1)) = .ok p):cardS ws p = ⟨ws.getD 0 [],p.nodes,p.name,p.nums.getD 0 (0,0),0,[],[]⟩:=by
 unfold cardS
 rw [if_neg (by rw [hw]; decide)]
 by_cases hv:valueC (headC ws) = true
 ·
  rw [if_pos hv]
 ·
  rw [if_neg hv]
  have hv:valueC (headC ws) = false:=by simpa using hv
  have hk':headC ws ∈ kindsL:=dev_kind h2
  obtain ⟨hf,hs⟩:=(form_shape (ws:=ws) hk').1 ⟨h3,h4⟩
  obtain ⟨x,t,rfl⟩:∃ x t,ws = x :: t:=by
   cases ws with
   | nil => exact absurd rfl h1
   | cons x t => exact ⟨x,t,rfl⟩
  have e:=on_parts (vk:=vkC (headC (x :: t))) (x:=x) (t:=t) hf (by rw [List.length_cons] at h4; omega)
  have hp':partsOf (x :: t) (cshape (headC (x :: t)) (x :: t)) = .ok p:=by rw [hs,<- e]; exact hp
  have:=(parts_inv hp').2.2.2.2.2.1
  rw [cshape_novalue _ hk' hw hv] at this
  rw [List.eq_nil_of_length_eq_zero this]
  rfl
theorem cardS_wave {ws:List (List UInt8)} {p:Pt} (hw:waveC (headC ws) = true):cardS ws p = ⟨ws.getD 0 [],p.nodes,p.name,(0,0),wkindL (ws.getD 3 []),p.nums,p.steps⟩:=if_pos hw
structure CqI (w wr:World) (rb cb:Nat) (s0:ByteArray) (vk:Bool) (F:List (UInt8 × List UInt8)) (k:Nat) (p:Pt) (nv xv sv:Value):Prop where
 kp:Kept w wr
 le:w.heap.size<=rb
 lt:rb < cb
 rr:RowL 32 wr rb [.string ⟨#[]⟩,.slice none 0 0,.string ⟨#[]⟩,.int .i64 0,.int .i64 0,.int .i64 0,.slice none 0 0,.slice none 0 0]
 cr:RowL 32 wr cb [.string s0,nv,.string (X.bs p.name),.int .i64 0,.int .i64 0,.int .i64 0,.slice none 0 0,.slice none 0 0]
 on:OwnS (cb + 1) wr nv p.nodes
 ox:OwnN (cb + 1) wr xv p.nums
 os:OwnI (cb + 1) wr sv p.steps
 eq:onAll vk Pt.zero F = onAll vk p (F.drop k)
 ln:p.nodes.length<=k
 lx:p.nums.length<=k
 ls:p.steps.length<=k
section
variable {w wr W3 W4 w':World} {rb cb:Nat} {s0:ByteArray} {vk:Bool} {F:List (UInt8 × List UInt8)} {k:Nat} {p:Pt} {nv xv sv:Value} {g4 cap4:Nat}
theorem CqI.kept (H:CqI w wr rb cb s0 vk F k p nv xv sv) (K:Kept wr w'):CqI w w' rb cb s0 vk F k p nv xv sv :=
 ⟨H.kp.trans K,H.le,H.lt,H.rr.kept K,H.cr.kept K,own_keptK H.on K,own_keptK H.ox K,own_keptK H.os K,H.eq,H.ln,H.lx,H.ls⟩
theorem CqI.skip (H:CqI w wr rb cb s0 vk F k p nv xv sv) (hz:onAll vk Pt.zero F = onAll vk p (F.drop (k + 1))):CqI w wr rb cb s0 vk F (k + 1) p nv xv sv :=
 ⟨H.kp,H.le,H.lt,H.rr,H.cr,H.on,H.ox,H.os,hz,Nat.le_succ_of_le H.ln,Nat.le_succ_of_le H.lx,Nat.le_succ_of_le H.ls⟩
theorem cqi_ref {x:List UInt8} (H:CqI w wr rb cb s0 vk F k p nv xv sv) (hz:onAll vk Pt.zero F = onAll vk { p with name:=x } (F.drop (k + 1))):CqI w (wr.setCell ⟨cb,2,none⟩ (.string (X.bs x))) rb cb s0 vk F (k + 1) { p with name:=x } nv xv sv:=by
 have o:∀ b,b ≠ cb->(wr.setCell ⟨cb,2,none⟩ (.string (X.bs x))).heap[b]? = wr.heap[b]?:=fun b hb => Deep.blk_setCell_other _ _ _ _ hb
 refine ⟨H.kp.setCell (by show w.heap.size<=cb; have:=H.le; have:=H.lt; omega) _,H.le,H.lt,H.rr.far (by have:=H.lt; omega) _ _,H.cr.set 2 _,?_,?_,?_,hz,Nat.le_succ_of_le H.ln,Nat.le_succ_of_le H.lx,Nat.le_succ_of_le H.ls⟩
 ·
  exact own_kept H.on fun b hb => o b (by intro e; subst e; exact own_row H.on H.cr (by decide) hb)
 ·
  exact own_kept H.ox fun b hb => o b (by intro e; subst e; exact own_row H.ox H.cr (by decide) hb)
 ·
  exact own_kept H.os fun b hb => o b (by intro e; subst e; exact own_row H.os H.cr (by decide) hb)
theorem cqi_node {x:List UInt8} {s:ByteArray} (H:CqI w wr rb cb s0 vk F k p nv xv sv) (KA:Kept wr W3) (own4:W4.ownsRow (cb + 1) 9 1 (.slice (some ⟨g4,0,none⟩) (p.nodes.length + 1) cap4) (p.nodes.length + 1) (strs p.nodes ++ [.string s])) (hg:W3.grownBy W4 nv.ownBlock) (hgg:nv.ownBlock = some g4 ∨ g4 = W3.heap.size) (hs:s = X.bs x) (hz:onAll vk Pt.zero F = onAll vk { p with nodes:=p.nodes ++ [x] } (F.drop (k + 1))) :
  RowL 32 W4 cb [.string s0,nv,.string (X.bs p.name),.int .i64 0,.int .i64 0,.int .i64 0,.slice none 0 0,.slice none 0 0]/\CqI w (W4.setCell ⟨cb,1,none⟩ (.slice (some ⟨g4,0,none⟩) (p.nodes.length + 1) cap4)) rb cb s0 vk F (k + 1) { p with nodes:=p.nodes ++ [x] } (.slice (some ⟨g4,0,none⟩) (p.nodes.length + 1) cap4) xv sv:=by
 subst hs
 have Q:=H.kept KA
 have n1:nv.ownBlock ≠ some cb:=own_row Q.on Q.cr (by decide)
 have n2:nv.ownBlock ≠ some rb:=own_row Q.on Q.rr (by decide)
 have hC4:=Q.cr.block (hg.block _ Q.cr.lt (fun e => n1 e.symm))
 have hR4:=Q.rr.block (hg.block _ Q.rr.lt (fun e => n2 e.symm))
 have hk4:Kept w W4:=Below.grown Q.kp hg Q.kp.size (fun b hb => by have:=(Q.on.lt b hb).1; have:=H.le; have:=H.lt; omega)
 have o:∀ b,b ≠ cb->(W4.setCell ⟨cb,1,none⟩ (.slice (some ⟨g4,0,none⟩) (p.nodes.length + 1) cap4)).heap[b]? = W4.heap[b]?:=fun b hb => Deep.blk_setCell_other _ _ _ _ hb
 have hg4:g4 ≠ cb:=by
  rcases hgg with h1 | h1
  ·
   intro e; exact n1 (by rw [h1,e])
  ·
   have:=Q.cr.lt; omega
 refine ⟨hC4,hk4.setCell (by show w.heap.size<=cb; have:=H.le; have:=H.lt; omega) _,H.le,H.lt,hR4.far (by have:=H.lt; omega) _ _,hC4.set 1 _,?_,?_,?_,hz,?_,Nat.le_succ_of_le H.lx,Nat.le_succ_of_le H.ls⟩
 ·
  show OwnS _ _ _ (p.nodes ++ [x])
  unfold OwnS
  rw [X.strs_app,List.length_append,List.length_singleton]
  refine own_kept own4 fun b hb => o b ?_
  have:g4 = b:=by simpa [Value.ownBlock] using hb
  omega
 ·
  refine own_kept Q.ox fun b hb => (o b ?_).trans (hg.block b (Q.ox.lt b hb).2 (fun e => own_apart Q.on Q.ox (by decide) b e.symm hb))
  intro e; subst e; exact own_row Q.ox Q.cr (by decide) hb
 ·
  refine own_kept Q.os fun b hb => (o b ?_).trans (hg.block b (Q.os.lt b hb).2 (fun e => own_apart Q.on Q.os (by decide) b e.symm hb))
  intro e; subst e; exact own_row Q.os Q.cr (by decide) hb
 ·
  show (p.nodes ++ [x]).length<=k + 1
  have:=H.ln
  rw [List.length_append,List.length_singleton]
  omega
theorem cqi_num {y0 y1:Int} (H:CqI w wr rb cb s0 vk F k p nv xv sv) (KA:Kept wr W3) (own4:W4.ownsRow (cb + 1) 26 2 (.slice (some ⟨g4,0,none⟩) (p.nums.length + 1) cap4) (p.nums.length + 1) (ncs p.nums ++ [.int .i64 y0,.int .i64 y1])) (hg:W3.grownBy W4 xv.ownBlock) (hz:onAll vk Pt.zero F = onAll vk { p with nums:=p.nums ++ [(y0,y1)] } (F.drop (k + 1))) :
  CqI w W4 rb cb s0 vk F (k + 1) { p with nums:=p.nums ++ [(y0,y1)] } nv (.slice (some ⟨g4,0,none⟩) (p.nums.length + 1) cap4) sv:=by
 have Q:=H.kept KA
 have n1:xv.ownBlock ≠ some cb:=own_row Q.ox Q.cr (by decide)
 have n2:xv.ownBlock ≠ some rb:=own_row Q.ox Q.rr (by decide)
 refine ⟨Below.grown Q.kp hg Q.kp.size (fun b hb => by have:=(Q.ox.lt b hb).1; have:=H.le; have:=H.lt; omega),H.le,H.lt,Q.rr.block (hg.block _ Q.rr.lt (fun e => n2 e.symm)),Q.cr.block (hg.block _ Q.cr.lt (fun e => n1 e.symm)),?_,?_,?_,hz,Nat.le_succ_of_le H.ln,?_,Nat.le_succ_of_le H.ls⟩
 ·
  exact own_kept Q.on fun b hb => hg.block b (Q.on.lt b hb).2 (fun e => own_apart Q.ox Q.on (by decide) b e.symm hb)
 ·
  show OwnN _ _ _ (p.nums ++ [(y0,y1)])
  unfold OwnN
  rw [ncs_app,List.length_append,List.length_singleton]
  exact own4
 ·
  exact own_kept Q.os fun b hb => hg.block b (Q.os.lt b hb).2 (fun e => own_apart Q.ox Q.os (by decide) b e.symm hb)
 ·
  show (p.nums ++ [(y0,y1)]).length<=k + 1
  have:=H.lx
  rw [List.length_append,List.length_singleton]
  omega
theorem cqi_step {z:Int} (H:CqI w wr rb cb s0 vk F k p nv xv sv) (KA:Kept wr W3) (own4:W4.ownsRow (cb + 1) 3 1 (.slice (some ⟨g4,0,none⟩) (p.steps.length + 1) cap4) (p.steps.length + 1) (p.steps.map (Value.int .i64) ++ [.int .i64 z])) (hg:W3.grownBy W4 sv.ownBlock) (hz:onAll vk Pt.zero F = onAll vk { p with steps:=p.steps ++ [z] } (F.drop (k + 1))) :
  CqI w W4 rb cb s0 vk F (k + 1) { p with steps:=p.steps ++ [z] } nv xv (.slice (some ⟨g4,0,none⟩) (p.steps.length + 1) cap4):=by
 have Q:=H.kept KA
 have n1:sv.ownBlock ≠ some cb:=own_row Q.os Q.cr (by decide)
 have n2:sv.ownBlock ≠ some rb:=own_row Q.os Q.rr (by decide)
 refine ⟨Below.grown Q.kp hg Q.kp.size (fun b hb => by have:=(Q.os.lt b hb).1; have:=H.le; have:=H.lt; omega),H.le,H.lt,Q.rr.block (hg.block _ Q.rr.lt (fun e => n2 e.symm)),Q.cr.block (hg.block _ Q.cr.lt (fun e => n1 e.symm)),?_,?_,?_,hz,Nat.le_succ_of_le H.ln,Nat.le_succ_of_le H.lx,?_⟩
 ·
  exact own_kept Q.on fun b hb => hg.block b (Q.on.lt b hb).2 (fun e => own_apart Q.os Q.on (by decide) b e.symm hb)
 ·
  exact own_kept Q.ox fun b hb => hg.block b (Q.ox.lt b hb).2 (fun e => own_apart Q.os Q.ox (by decide) b e.symm hb)
 ·
  show OwnI _ _ _ (p.steps ++ [z])
  unfold OwnI
  rw [List.map_append,List.length_append,List.length_singleton]
  exact own4
 ·
  show (p.steps ++ [z]).length<=k + 1
  have:=H.ls
  rw [List.length_append,List.length_singleton]
  omega
end
end V
end Go.Proofs.YtihnknnddldgiaaGreatDoor

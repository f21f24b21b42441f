/- Lemmas. -/
import Derived.Test.YtihnknnddldgiaaGreatDoorGbk
import Derived.Test.YtihnknnddldgiaaGreatDoorGax
import Derived.Test.YtihnknnddldgiaaGreatDoorMreads
import Derived.Test.YtihnknnddldgiaaGreatDoorGbh
import Derived.Test.YtihnknnddldgiaaGreatDoorGbj
namespace Go.Proofs.YtihnknnddldgiaaGreatDoor
open Go.RowKit
namespace V
open Q (hid' parseOf okN numE rparse_any)
open X (OwnS RS strs bs_list bs_size)
theorem form_dot {ws:List (List UInt8)} (hw:waveC (headC ws) = true) (h3:formC (headC ws) ws ≠ []):4<=ws.length/\3<=(formC (headC ws) ws).length /\
  (((formC (headC ws) ws).getD 2 0 = 46/\(ws.getD 3 [] = [100,99] ∨ ws.getD 3 [] = [112,117,108,115,101] ∨ ws.getD 3 [] = [112,119,108] ∨ ws.getD 3 [] = [116,97,98,108,101])) ∨ ((formC (headC ws) ws).getD 2 0 = 88/\wkindL (ws.getD 3 []) = 1)):=by
 have h1:=of_decide_eq_true hw
 simp only [List.mem_cons,List.not_mem_nil,or_false] at h1
 obtain ⟨q,hq⟩:∃ q,q = headC ws:=⟨_,rfl⟩
 rw [<- hq] at h1 h3 ⊢
 have hf:formC q ws = if ws.length < 4 then []
   else if ws.getD 3 [] = [100,99] then [110,110,46,88]
   else if ws.getD 3 [] = [112,117,108,115,101] then [110,110,46,88,88,83,83,83,83,83]
   else if ws.getD 3 [] = [112,119,108] then (if ws.length = 4 then [] else [110,110,46] ++ Lib.repeatL [83,88] (min ((ws.length - 3) / 2) 16))
   else if ws.getD 3 [] = [116,97,98,108,101] then (if ws.length = 4 then [] else [110,110,46] ++ Lib.repeatL [88] (min (ws.length - 4) 16))
   else [110,110,88]:=by rcases h1 with rfl | rfl <;> rfl
 rw [hf] at h3 ⊢
 by_cases a0:ws.length < 4
 ·
  rw [if_pos a0] at h3; exact absurd rfl h3
 rw [if_neg a0] at h3 ⊢
 refine ⟨by omega,?_⟩
 by_cases a1:ws.getD 3 [] = [100,99]
 ·
  rw [if_pos a1]; exact ⟨by decide,.inl ⟨rfl,.inl a1⟩⟩
 rw [if_neg a1] at h3 ⊢
 by_cases a2:ws.getD 3 [] = [112,117,108,115,101]
 ·
  rw [if_pos a2]; exact ⟨by decide,.inl ⟨rfl,.inr (.inl a2)⟩⟩
 rw [if_neg a2] at h3 ⊢
 by_cases a3:ws.getD 3 [] = [112,119,108]
 ·
  rw [if_pos a3] at h3 ⊢
  by_cases a5:ws.length = 4
  ·
   rw [if_pos a5] at h3; exact absurd rfl h3
  ·
   rw [if_neg a5]; exact ⟨by rw [List.length_append]; simp,.inl ⟨rfl,.inr (.inr (.inl a3))⟩⟩
 rw [if_neg a3] at h3 ⊢
 by_cases a4:ws.getD 3 [] = [116,97,98,108,101]
 ·
  rw [if_pos a4] at h3 ⊢
  by_cases a5:ws.length = 4
  ·
   rw [if_pos a5] at h3; exact absurd rfl h3
  ·
   rw [if_neg a5]; exact ⟨by rw [List.length_append]; simp,.inl ⟨rfl,.inr (.inr (.inr a4))⟩⟩
 rw [if_neg a4]
 exact ⟨by decide,.inr ⟨rfl,by unfold wkindL; rw [if_neg a2,if_neg a3,if_neg a4]⟩⟩
theorem on110 (vk:Bool) (p:Pt) (x:List UInt8):onStep vk p 110 x = if okName x = true then .ok { p with nodes:=p.nodes ++ [x] } else .error 71:=rfl
theorem on82 (vk:Bool) (p:Pt) (x:List UInt8):onStep vk p 82 x = if okName x = true/\(vk = true->x.getD 0 0 = 118) then .ok { p with name:=x } else .error 71:=rfl
theorem on88 (vk:Bool) (p:Pt) (x:List UInt8):onStep vk p 88 x = if (parseOf x).2.2 = 0 then .ok { p with nums:=p.nums ++ [((parseOf x).1,(parseOf x).2.1)] } else .error (parseOf x).2.2:=rfl
theorem on83 (vk:Bool) (p:Pt) (x:List UInt8):onStep vk p 83 x = if (stepT x).2 = true then .ok { p with steps:=p.steps ++ [(stepT x).1] } else .error 3:=rfl
theorem onNo (vk:Bool) (p:Pt) (c:UInt8) (x:List UInt8) (h1:c ≠ 110) (h2:c ≠ 82) (h3:c ≠ 88) (h4:c ≠ 83):onStep vk p c x = .ok p:=by
 unfold onStep; rw [if_neg h1,if_neg h2,if_neg h3,if_neg h4]
theorem okName_posl {x:List UInt8} (h:okName x = true):0 < x.length:=by
 unfold okName at h
 have h2:=(Bool.and_eq_true _ _ ▸ h).1
 have h3:=of_decide_eq_true h2
 omega
structure CqE (w wr:World) (rb cb:Nat) (cells:List Value) (p:Pt) (nv xv sv:Value):Prop where
 kp:Kept w wr
 le:w.heap.size<=rb
 lt:rb < cb
 rr:RowL 32 wr rb [.string ⟨#[]⟩,.slice none 0 0,.string ⟨#[]⟩,.int .i64 0,.int .i64 0,.int .i64 0,.slice none 0 0,.slice none 0 0]
 cr:RowL 32 wr cb cells
 on:OwnS (cb + 1) wr nv p.nodes
 ox:OwnN (cb + 1) wr xv p.nums
 os:OwnI (cb + 1) wr sv p.steps
theorem CqE.kept {w wr w':World} {rb cb:Nat} {cells:List Value} {p:Pt} {nv xv sv:Value} (H:CqE w wr rb cb cells p nv xv sv) (K:Kept wr w'):CqE w w' rb cb cells p nv xv sv :=
 ⟨H.kp.trans K,H.le,H.lt,H.rr.kept K,H.cr.kept K,own_keptK H.on K,own_keptK H.ox K,own_keptK H.os K⟩
theorem CqE.set {w wr:World} {rb cb:Nat} {cells:List Value} {p:Pt} {nv xv sv:Value} (H:CqE w wr rb cb cells p nv xv sv) (i:Nat) (v:Value):CqE w (wr.setCell ⟨cb,i,none⟩ v) rb cb (cells.set i v) p nv xv sv:=by
 have o:∀ b,b ≠ cb->(wr.setCell ⟨cb,i,none⟩ v).heap[b]? = wr.heap[b]?:=fun b hb => Deep.blk_setCell_other _ _ _ _ hb
 refine ⟨H.kp.setCell (by show w.heap.size<=cb; have:=H.le; have:=H.lt; omega) _,H.le,H.lt,H.rr.far (by have:=H.lt; omega) _ _,H.cr.set i _,?_,?_,?_⟩
 ·
  exact own_kept H.on fun b hb => o b (by intro e; subst e; exact own_row H.on H.cr (by decide) hb)
 ·
  exact own_kept H.ox fun b hb => o b (by intro e; subst e; exact own_row H.ox H.cr (by decide) hb)
 ·
  exact own_kept H.os fun b hb => o b (by intro e; subst e; exact own_row H.os H.cr (by decide) hb)
set_option maxRecDepth 100000 in
set_option maxHeartbeats 40000000 in
theorem rread_any (ao:Option Addr) (n c:Nat) (ws:List (List UInt8)) (w:World) (h:RS w (.slice ao n c) ws) (hn2:n<=1000000000000000000) (hs:∀ x ∈ ws,x.length<=1048576) :
  Calls Tryz.prog 7 #[.slice ao n c] w fun e w' => Kept w w'/\RdIs w.heap.size w' e (readC ws):=by
 --%T
 have hn:n = ws.length:=rs_len h
 have HS:=hid' (And.intro h (And.intro hn hs))
 obtain ⟨r,hr⟩:∃ r,r = readC ws:=⟨_,rfl⟩
 rw [<- hr]
 have HR:=hid' hr
 clear h hs hr
 by_cases h0:n = 0
 ·
  subst h0
  have HE:=hid' (show r = .error 70 by rw [HR.out]; unfold readC; rw [if_pos (.inl (List.eq_nil_of_length_eq_zero hn.symm))])
  clear hn
  --%E1
  go_enter Tryz.func7,Tryz.ntmps7
  go_wp2_with fail
  refine bodyPost_ret (v:=.tuple #[.agg #[.string ⟨#[]⟩,.slice none 0 0,.string ⟨#[]⟩,.int .i64 0,.int .i64 0,.int .i64 0,.slice none 0 0,.slice none 0 0],.int .i64 70]) (by simp [results,Tryz.results7,go_sem]) rfl ⟨?_,?_⟩
  ·
   exact (Kept.refl w).alloc _
  ·
   rw [HE.out]
   exact ⟨rfl,by decide⟩
 have hn0:0 < n:=by omega
 have hnp:(0:Int) < (n:Int):=by omega
 have hnz:¬ (n:Int) = 0:=by omega
 have hnz':((n:Int) == 0) = false:=by simpa using hnz
 have HLN:=hid' hn
 obtain ⟨b,off,rfl,ck⟩:∃ b off,ao = some ⟨b,off,none⟩/\Hid (b < w.heap.size/\∀ j,j < n->w.cell? ⟨b,off + j,none⟩ = some (.string (X.bs (ws.getD j [])))):=by
  obtain ⟨ao',c',hv,hx⟩:=HS.out.1
  simp only [Value.slice.injEq] at hv
  obtain ⟨rfl,hn,rfl⟩:=hv
  obtain ⟨b,off,e,h1,h2⟩:=hx (by omega)
  exact ⟨b,off,e,h1,fun j hj => h2 j (by omega)⟩
 have hsl:∀ j,j < n->(X.bs (ws.getD j [])).size<=1048576:=by
  intro j hj
  rw [bs_size]
  refine HS.out.2.2 _ ?_
  rw [List.getD_eq_getElem?_getD,List.getElem?_eq_getElem (by omega)]
  exact List.getElem_mem _
 have HSL:=hid' hsl
 have hsz0:=hsl 0 hn0
 have hdev:=fun V => rdev_any (X.bs (ws.getD 0 [])) V (by omega)
 rw [bs_list] at hdev
 have KZ:=(Kept.refl w).alloc (.cells #[.string ⟨#[]⟩,.slice none 0 0,.string ⟨#[]⟩,.int .i64 0,.int .i64 0,.int .i64 0,.slice none 0 0,.slice none 0 0] 32)
 have c0:=(Below.cell KZ (p:=⟨b,off + 0,none⟩) ck.out.1).trans (ck.out.2 0 hn0)
 rw [Nat.add_zero] at c0
 obtain ⟨s0,hs0e⟩:∃ s,s = X.bs (ws.getD 0 []):=⟨_,rfl⟩
 rw [<- hs0e] at c0 hdev hsz0
 have HS0:=hid' hs0e
 have hZr:=RowL.alloc 32 w [.string ⟨#[]⟩,.slice none 0 0,.string ⟨#[]⟩,.int .i64 0,.int .i64 0,.int .i64 0,.slice none 0 0,.slice none 0 0]
 obtain ⟨rb,hrb⟩:∃ q,q = w.heap.size:=⟨_,rfl⟩
 have HRB:=hid' hrb
 have hfm:=fun V (K:Kept w V) hd => rform_any (some ⟨b,off,none⟩) n c ws V (HS.out.1.kept K) hd (by intro e; rw [e] at hn; simp at hn; omega) hn2
 clear hs0e hn hsl
 cases hdv:devB (ws.getD 0 [])
 ·
  have HE:=hid' (show r = .error 70 by rw [HR.out]; unfold readC; rw [if_pos (.inr hdv)])
  rw [hdv] at hdev
  clear hfm
  --%E2
  go_enter Tryz.func7,Tryz.ntmps7
  go_upto_region 1 with fail
  generalize w.alloc (.cells #[.string ⟨#[]⟩,.slice none 0 0,.string ⟨#[]⟩,.int .i64 0,.int .i64 0,.int .i64 0,.slice none 0 0,.slice none 0 0] 32) = W0 at KZ hZr c0 ⊢
  rw [<- hrb] at hZr ⊢
  clear hrb
  go_wp2_with fail
  refine (hdev _).mono ?_
  rintro e w1 ⟨hk1,rfl⟩
  have HQ:=hid' (And.intro (KZ.trans hk1) (hZr.kept hk1))
  clear hk1 KZ hZr c0
  have d0:=HQ.out.2.cell 0 (.string ⟨#[]⟩)
  have d1:=HQ.out.2.cell 1 (.slice none 0 0)
  have d2:=HQ.out.2.cell 2 (.string ⟨#[]⟩)
  have d3:=HQ.out.2.cell 3 (.int .i64 0)
  have d4:=HQ.out.2.cell 4 (.int .i64 0)
  have d5:=HQ.out.2.cell 5 (.int .i64 0)
  have d6:=HQ.out.2.cell 6 (.slice none 0 0)
  have d7:=HQ.out.2.cell 7 (.slice none 0 0)
  have zd:=HQ.out.2.fz
  go_wp2_with fail
  refine bodyPost_ret (v:=.tuple #[.agg #[.string ⟨#[]⟩,.slice none 0 0,.string ⟨#[]⟩,.int .i64 0,.int .i64 0,.int .i64 0,.slice none 0 0,.slice none 0 0],.int .i64 70]) (by simp [results,Tryz.results7,go_sem,d0,d1,d2,d3,d4,d5,d6,d7]) rfl ⟨?_,?_⟩
  ·
   exact Kept.set8 HQ.out.1 (by rw [HRB.out]; exact Nat.le_refl _) _ _ _ _ _ _ _ _
  ·
   rw [HE.out]
   exact ⟨rfl,by first | decide | assumption⟩
 rw [hdv] at hdev
 have hfm:=fun V (K:Kept w V) => hfm V K hdv
 have hh:0 < s0.size:=by
  have h1:=dev_pos (s:=X.bs (ws.getD 0 [])) (by rw [bs_list]; exact hdv)
  rwa [<- HS0.out] at h1
 have hhi:(0:Int) < (s0.size:Int):=by omega
 have hq0:s0[0] = headC ws:=by rw [head_of hh HS0.out]; rfl
 have hsf:=formC_len (headC ws) ws
 obtain ⟨fc,hfc⟩:∃ f,f = formC (headC ws) ws:=⟨_,rfl⟩
 rw [<- hfc] at hfm hsf
 obtain ⟨fm,hfme⟩:∃ f,f = X.bs fc:=⟨_,rfl⟩
 rw [<- hfme] at hfm
 have hfl:fm.size = fc.length:=by rw [hfme,bs_size]
 have hft:fm.toList = fc:=by rw [hfme,ByteArray.toList_eq,bs_list]
 by_cases hfe:fc ≠ []/\ws.length = fc.length + 1
 rotate_left
 ·
  have HE:=hid' (show r = .error 70 by
   rw [HR.out,<- rread_eq]; unfold rreadC
   split
   ·
    rfl
   rw [if_pos]
   rw [<- hfc]
   by_cases e:fc = []
   ·
    exact .inl e
   ·
    exact .inr (fun e2 => hfe ⟨e,e2⟩))
  have hcond:((fm.toList == []) = true ∨ ((fm.toList == []) = false/\¬ (n:Int) = (fm.size:Int) + 1)):=by
   rw [hft]
   by_cases e:fc = []
   ·
    left; rw [e]; rfl
   ·
    right
    refine ⟨by simpa using e,fun e2 => hfe ⟨e,?_⟩⟩
    have:=HLN.out
    omega
  clear hfe hft hfme hfc
  --%E3
  go_enter Tryz.func7,Tryz.ntmps7
  go_upto_region 1 with fail
  generalize w.alloc (.cells #[.string ⟨#[]⟩,.slice none 0 0,.string ⟨#[]⟩,.int .i64 0,.int .i64 0,.int .i64 0,.slice none 0 0,.slice none 0 0] 32) = W0 at KZ hZr c0 ⊢
  rw [<- hrb] at hZr ⊢
  clear hrb
  go_wp2_with fail
  refine (hdev _).mono ?_
  rintro e w1 ⟨hk1,rfl⟩
  have hf1:=hfm _ (KZ.trans hk1)
  have HQ:=hid' (And.intro (KZ.trans hk1) (hZr.kept hk1))
  clear hk1 KZ hZr c0
  go_wp2_with fail
  refine hf1.mono ?_
  rintro e w2 ⟨hk2,rfl⟩
  have HQ:=hid' (And.intro (HQ.out.1.trans hk2) (HQ.out.2.kept hk2))
  clear hk2 hf1
  rcases hcond with hc1 | ⟨hc1,hc2⟩
  ·
   have hc3:fm.size = 0:=by have:=eq_of_beq hc1; rw [ByteArray.toList_eq] at this; have h2:=congrArg List.length this; rw [Array.length_toList] at h2; exact h2
   have d0:=HQ.out.2.cell 0 (.string ⟨#[]⟩)
   have d1:=HQ.out.2.cell 1 (.slice none 0 0)
   have d2:=HQ.out.2.cell 2 (.string ⟨#[]⟩)
   have d3:=HQ.out.2.cell 3 (.int .i64 0)
   have d4:=HQ.out.2.cell 4 (.int .i64 0)
   have d5:=HQ.out.2.cell 5 (.int .i64 0)
   have d6:=HQ.out.2.cell 6 (.slice none 0 0)
   have d7:=HQ.out.2.cell 7 (.slice none 0 0)
   have zd:=HQ.out.2.fz
   go_wp2_with fail
   refine bodyPost_ret (v:=.tuple #[.agg #[.string ⟨#[]⟩,.slice none 0 0,.string ⟨#[]⟩,.int .i64 0,.int .i64 0,.int .i64 0,.slice none 0 0,.slice none 0 0],.int .i64 70]) (by simp [results,Tryz.results7,go_sem,d0,d1,d2,d3,d4,d5,d6,d7]) rfl ⟨?_,?_⟩
   ·
    exact Kept.set8 HQ.out.1 (by rw [HRB.out]; exact Nat.le_refl _) _ _ _ _ _ _ _ _
   ·
    rw [HE.out]
    exact ⟨rfl,by first | decide | assumption⟩
  ·
   have hc3:((n:Int) == (fm.size:Int) + 1) = false:=by simpa using hc2
   have d0:=HQ.out.2.cell 0 (.string ⟨#[]⟩)
   have d1:=HQ.out.2.cell 1 (.slice none 0 0)
   have d2:=HQ.out.2.cell 2 (.string ⟨#[]⟩)
   have d3:=HQ.out.2.cell 3 (.int .i64 0)
   have d4:=HQ.out.2.cell 4 (.int .i64 0)
   have d5:=HQ.out.2.cell 5 (.int .i64 0)
   have d6:=HQ.out.2.cell 6 (.slice none 0 0)
   have d7:=HQ.out.2.cell 7 (.slice none 0 0)
   have zd:=HQ.out.2.fz
   go_wp2_with fail
   refine bodyPost_ret (v:=.tuple #[.agg #[.string ⟨#[]⟩,.slice none 0 0,.string ⟨#[]⟩,.int .i64 0,.int .i64 0,.int .i64 0,.slice none 0 0,.slice none 0 0],.int .i64 70]) (by simp [results,Tryz.results7,go_sem,d0,d1,d2,d3,d4,d5,d6,d7]) rfl ⟨?_,?_⟩
   ·
    exact Kept.set8 HQ.out.1 (by rw [HRB.out]; exact Nat.le_refl _) _ _ _ _ _ _ _ _
   ·
    rw [HE.out]
    exact ⟨rfl,by first | decide | assumption⟩
 --%M0
 have hne:ws ≠ []:=by intro e; have:=HLN.out; rw [e] at this; simp at this; omega
 have hwl:ws.length = fc.length + 1:=hfe.2
 have HBO:=hid' (rread_body hne hdv (by rw [<- hfc]; exact hfe.1) (by rw [<- hfc]; exact hfe.2))
 have HPL:=hid' (fun p => cardS_plain (p:=p) hne hdv (by rw [<- hfc]; exact hfe.1) (by rw [<- hfc]; exact hfe.2))
 have HWV:=hid' (fun hw => form_dot (ws:=ws) hw (by rw [<- hfc]; exact hfe.1))
 rw [<- hfc] at HBO HPL HWV
 obtain ⟨FF,hFF⟩:∃ F,F = fc.zip (ws.drop 1):=⟨_,rfl⟩
 rw [<- hFF] at HBO HPL
 have hFl:FF.length = fc.length:=by rw [hFF,List.length_zip,List.length_drop]; omega
 have HFA:=hid' (show ∀ i (hi:i < FF.length) (hj:i < fm.size),FF[i].1 = fm[i]/\FF[i].2 = ws.getD (i + 1) [] by
  intro i hi hj
  subst hFF
  have e1:(fc.zip (ws.drop 1))[i].1 = fc[i]'(by omega):=by rw [List.getElem_zip]
  have e2:(fc.zip (ws.drop 1))[i].2 = (ws.drop 1)[i]'(by rw [List.length_drop]; omega):=by rw [List.getElem_zip]
  rw [e1,e2]
  refine ⟨?_,?_⟩
  ·
   have h1:=bl_at' fm i hj
   have h2:fm.data.toList = fc:=by rw [hfme,bs_list]
   rw [h2,List.getElem?_eq_getElem (by omega)] at h1
   exact Option.some.inj h1
  ·
   rw [List.getElem_drop,List.getD_eq_getElem?_getD,show i + 1 = 1 + i by omega,List.getElem?_eq_getElem (by omega)]
   rfl)
 obtain ⟨vk,hvk⟩:∃ v,v = vkC (headC ws):=⟨_,rfl⟩
 rw [<- hvk] at HBO HPL
 have HVK:=hid' (show vk = true ↔ (s0[0].toNat = 102 ∨ s0[0].toNat = 104) by
  rw [hvk,hq0]
  unfold vkC
  rw [decide_eq_true_iff]
  constructor
  ·
   rintro (e | e) <;> rw [e] <;> decide
  ·
   rintro (e | e)
   ·
    exact .inl (UInt8.toNat_inj.1 e)
   ·
    exact .inr (UInt8.toNat_inj.1 e))
 have hfz:(fm.toList == []) = false:=by rw [hft]; simpa using hfe.1
 have hfz2:¬ fm.size = 0:=by rw [hfl]; intro e; exact hfe.1 (List.eq_nil_of_length_eq_zero e)
 have hnf:(n:Int) = (fm.size:Int) + 1:=by have:=HLN.out; omega
 have hnf':((n:Int) == (fm.size:Int) + 1) = true:=by simpa using hnf
 have HFC:=hid' (And.intro hfl (And.intro hft (And.intro hFl (And.intro hsf hfme))))
 have hfs:fm.size<=40:=by omega
 have HQ0:=hid' hq0
 have HFE:=hid' hfe
 have hnN:n = fm.size + 1:=by omega
 have HNN:=hid' hnN
 clear hfc hFF hvk hne hwl hfe hft hfme hfl hFl hsf hdv hnN hq0
 go_enter Tryz.func7,Tryz.ntmps7
 go_upto_region 1 with fail
 generalize w.alloc (.cells #[.string ⟨#[]⟩,.slice none 0 0,.string ⟨#[]⟩,.int .i64 0,.int .i64 0,.int .i64 0,.slice none 0 0,.slice none 0 0] 32) = W0 at KZ hZr c0 ⊢
 rw [<- hrb] at hZr ⊢
 clear hrb
 go_wp2_with fail
 refine (hdev _).mono ?_
 rintro e w1 ⟨hk1,rfl⟩
 have hf1:=hfm _ (KZ.trans hk1)
 have HQ:=hid' (And.intro (KZ.trans hk1) (hZr.kept hk1))
 clear hk1 KZ hZr c0
 go_wp2_with fail
 refine hf1.mono ?_
 rintro e w2 ⟨hk2,rfl⟩
 have HQ:=hid' (And.intro (HQ.out.1.trans hk2) (HQ.out.2.kept hk2))
 have c0:=(Below.cell HQ.out.1 (p:=⟨b,off + 0,none⟩) ck.out.1).trans (ck.out.2 0 hn0)
 rw [Nat.add_zero,<- HS0.out] at c0
 clear hk2 hf1 hfm hdev
 have kC:=(Kept.refl w2).alloc (.cells #[.string s0,.slice none 0 0,.string ⟨#[]⟩,.int .i64 0,.int .i64 0,.int .i64 0,.slice none 0 0,.slice none 0 0] 32)
 have hC:=RowL.alloc 32 w2 [.string s0,.slice none 0 0,.string ⟨#[]⟩,.int .i64 0,.int .i64 0,.int .i64 0,.slice none 0 0,.slice none 0 0]
 go_wp2_with fail
 --%M1
 generalize w2.alloc (.cells #[.string s0,.slice none 0 0,.string ⟨#[]⟩,.int .i64 0,.int .i64 0,.int .i64 0,.slice none 0 0,.slice none 0 0] 32) = W2 at kC hC ⊢
 obtain ⟨cb,hcb⟩:∃ q,q = w2.heap.size:=⟨_,rfl⟩
 rw [<- hcb] at hC ⊢
 have HI0:Hid (CqI w W2 rb cb s0 vk FF 0 Pt.zero (.slice none 0 0) (.slice none 0 0) (.slice none 0 0)):=⟨HQ.out.1.trans kC,by rw [HRB.out]; exact Nat.le_refl _,by rw [hcb]; exact HQ.out.2.lt,HQ.out.2.kept kC,hC,World.ownsRow_nil _ _ _ _,World.ownsRow_nil _ _ _ _,World.ownsRow_nil _ _ _ _,rfl,Nat.le_refl _,Nat.le_refl _,Nat.le_refl _⟩
 clear kC hC hcb HQ c0
 go_loopw [7,8,9] (fun v7 v8 v9 wr => ∃ (i:Nat) (p:Pt) (nv xv sv:Value),i<=fm.size/\v7 = xv/\v8 = sv/\v9 = .int .i64 (i:Int)/\Hid (CqI w wr rb cb s0 vk FF i p nv xv sv)) (fun _ _ v9 _ => fm.size - (intOf v9).toNat)
 case atStart => exact ⟨0,Pt.zero,_,_,_,Nat.zero_le _,rfl,rfl,rfl,HI0.out⟩
 case round =>
  --%L
  obtain ⟨i,p,nv,xv,sv,hil,rfl,rfl,rfl,H⟩:=hrel
  clear HI0
  by_cases hit:i < fm.size
  ·
   have hii:(i:Int) < (fm.size:Int):=by omega
   have hi0:(0:Int)<=(i:Int):=by omega
   have hi1:(i:Int) + 1 < (n:Int):=by omega
   have hi1':i + 1 < n:=by omega
   have hln:=H.out.ln
   have hlx:=H.out.lx
   have hls:=H.out.ls
   have hiF:i < FF.length:=by have:=HFC.out; omega
   have ci:=(Below.cell H.out.kp (p:=⟨b,off + (i + 1),none⟩) ck.out.1).trans (ck.out.2 (i + 1) hi1')
   have hsi:=HSL.out (i + 1) hi1'
   have HFi:=hid' (HFA.out i hiF hit)
   have HER:=hid' (fun e => on_err (e:=e) H.out.eq hiF)
   have HOK:=hid' (fun q => on_ok (r:=q) H.out.eq hiF)
   rw [HFi.out.1,HFi.out.2] at HER HOK
   obtain ⟨x,hx⟩:∃ x,x = ws.getD (i + 1) []:=⟨_,rfl⟩
   rw [<- hx] at HER HOK ci hsi
   obtain ⟨si,hsie⟩:∃ s,s = X.bs x:=⟨_,rfl⟩
   rw [<- hsie] at ci hsi
   have HSI:=hid' (And.intro hsie (show si.data.toList = x by rw [hsie,bs_list]))
   clear hx hsie hiF HFi
   by_cases k1:fm[i].toNat = 110
   ·
    --%N
    have k1':fm[i] = 110:=UInt8.toNat_inj.1 k1
    rw [k1'] at HER HOK
    simp only [on110] at HER HOK
    have hnm:=fun V => rname_any si V (by omega)
    rw [HSI.out.2] at hnm
    have k1i:(fm[i].toNat:Int) = 110:=by omega
    have k1b:((fm[i].toNat:Int) == 110) = true:=by simpa using k1i
    clear k1'
    cases hok:okName x with
    | false =>
     rw [hok] at hnm
     have HE:=hid' (show r = .error 71 by rw [HR.out,HBO.out,HER.out 71 (by rw [hok]; rfl)]; rfl)
     have HQ:=H
     go_wp2_with fail
     refine (hnm _).mono ?_
     rintro e w5 ⟨rfl,rfl⟩
     have d0:=HQ.out.rr.cell 0 (.string ⟨#[]⟩)
     have d1:=HQ.out.rr.cell 1 (.slice none 0 0)
     have d2:=HQ.out.rr.cell 2 (.string ⟨#[]⟩)
     have d3:=HQ.out.rr.cell 3 (.int .i64 0)
     have d4:=HQ.out.rr.cell 4 (.int .i64 0)
     have d5:=HQ.out.rr.cell 5 (.int .i64 0)
     have d6:=HQ.out.rr.cell 6 (.slice none 0 0)
     have d7:=HQ.out.rr.cell 7 (.slice none 0 0)
     have zd:=HQ.out.rr.fz
     go_wp2_with fail
     refine bodyPost_ret (v:=.tuple #[.agg #[.string ⟨#[]⟩,.slice none 0 0,.string ⟨#[]⟩,.int .i64 0,.int .i64 0,.int .i64 0,.slice none 0 0,.slice none 0 0],.int .i64 71]) (by simp [results,Tryz.results7,go_sem,d0,d1,d2,d3,d4,d5,d6,d7]) rfl ⟨?_,?_⟩
     ·
      exact Kept.set8 HQ.out.kp (by rw [HRB.out]; exact Nat.le_refl _) _ _ _ _ _ _ _ _
     ·
      rw [HE.out]
      exact ⟨rfl,by first | decide | assumption⟩
    | true =>
     rw [hok] at hnm
     have HZ:=hid' (HOK.out _ (by rw [hok]; rfl))
     obtain ⟨i0,hi,hz0,hz1,hz2⟩:=info_parts X.info_str
     go_wp2_with fail
     refine (hnm _).mono ?_
     rintro e w5 ⟨rfl,rfl⟩
     have KA:=(Kept.refl w5).alloc (.cells #[.string si] 9)
     have e1:=(H.out.kept KA).cr.cell 1 nv
     have e1':=H.out.cr.cell 1 nv
     go_wp2_with (at_builtin; refine wpList_append_lies _ rfl (.tmp 68) (.tmp 70) 22 rfl (cb + 1) 9 i0 (.string ByteArray.empty) 1 16 X.und_strs hi hz0 hz1 hz2 rfl (by decide) nv p.nodes.length (strs p.nodes) rfl (by exact (H.out.kept KA).on) ⟨w5.heap.size,0,none⟩ 1 1 [.string si] rfl rfl (X.cell_new w5 _ _) (fun u hu => by simp at hu; subst hu; rfl) (by omega) (by unfold maxLen; omega) (by omega) (by have:=H.out.cr.lt; simp; omega) _ rfl ?_)
     intro g4 cap4 W4 own4 hg4 hgg _
     have HM:=hid' (cqi_node (x:=x) H.out KA own4 hg4 (by simpa using hgg) HSI.out.1 HZ.out)
     have e4:=HM.out.1.cell 1 nv
     have f4:=HM.out.1.fz
     clear own4 hg4 hgg KA e1 e1'
     go_wp2_with fail
     go_roundw
     case rel => exact ⟨i + 1,_,_,_,_,by omega,rfl,rfl,by go_num,HM.out.2⟩
     case measure => show fm.size - ((i:Int) + 1).toNat < fm.size - (i:Int).toNat; omega
   have k1i:¬ (fm[i].toNat:Int) = 110:=by omega
   have k1b:((fm[i].toNat:Int) == 110) = false:=by simpa using k1i
   by_cases k2:fm[i].toNat = 82
   ·
    --%R
    have k2':fm[i] = 82:=UInt8.toNat_inj.1 k2
    rw [k2'] at HER HOK
    simp only [on82] at HER HOK
    have hnm:=fun V => rname_any si V (by omega)
    rw [HSI.out.2] at hnm
    have k2i:(fm[i].toNat:Int) = 82:=by omega
    have k2b:((fm[i].toNat:Int) == 82) = true:=by simpa using k2i
    clear k2'
    cases hok:okName x with
    | false =>
     rw [hok] at hnm
     have HE:=hid' (show r = .error 71 by rw [HR.out,HBO.out,HER.out 71 (by rw [if_neg (by rw [hok]; exact fun h => absurd h.1 (by decide))])]; rfl)
     have HQ:=H
     go_wp2_with fail
     refine (hnm _).mono ?_
     rintro e w5 ⟨rfl,rfl⟩
     have d0:=HQ.out.rr.cell 0 (.string ⟨#[]⟩)
     have d1:=HQ.out.rr.cell 1 (.slice none 0 0)
     have d2:=HQ.out.rr.cell 2 (.string ⟨#[]⟩)
     have d3:=HQ.out.rr.cell 3 (.int .i64 0)
     have d4:=HQ.out.rr.cell 4 (.int .i64 0)
     have d5:=HQ.out.rr.cell 5 (.int .i64 0)
     have d6:=HQ.out.rr.cell 6 (.slice none 0 0)
     have d7:=HQ.out.rr.cell 7 (.slice none 0 0)
     have zd:=HQ.out.rr.fz
     go_wp2_with fail
     refine bodyPost_ret (v:=.tuple #[.agg #[.string ⟨#[]⟩,.slice none 0 0,.string ⟨#[]⟩,.int .i64 0,.int .i64 0,.int .i64 0,.slice none 0 0,.slice none 0 0],.int .i64 71]) (by simp [results,Tryz.results7,go_sem,d0,d1,d2,d3,d4,d5,d6,d7]) rfl ⟨?_,?_⟩
     ·
      exact Kept.set8 HQ.out.kp (by rw [HRB.out]; exact Nat.le_refl _) _ _ _ _ _ _ _ _
     ·
      rw [HE.out]
      exact ⟨rfl,by first | decide | assumption⟩
    | true =>
     rw [hok] at hnm
     have hsp:0 < si.size:=by rw [HSI.out.1,bs_size]; exact okName_posl hok
     have hspi:(0:Int) < (si.size:Int):=by omega
     have hx0:x.getD 0 0 = si[0]:=(head_of hsp HSI.out.1).symm
     rcases Bool.eq_false_or_eq_true vk with hvv | hvv
     ·
      have hk2:((s0[0].toNat:Int) == 102) = true ∨ (((s0[0].toNat:Int) == 102) = false/\((s0[0].toNat:Int) == 104) = true):=by
       rcases HVK.out.1 hvv with e | e
       ·
        left; rw [e]; rfl
       ·
        right; rw [e]; exact ⟨rfl,rfl⟩
      by_cases h118:si[0].toNat = 118
      ·
       --%R1
       have HZ:=hid' (HOK.out _ (if_pos ⟨hok,fun _ => by rw [hx0]; exact UInt8.toNat_inj.1 h118⟩))
       have h118i:(si[0].toNat:Int) = 118:=by omega
       have h118b:((si[0].toNat:Int) == 118) = true:=by simpa using h118i
       have HM:=hid' (cqi_ref H.out HZ.out)
       rw [<- HSI.out.1] at HM
       have e4:=H.out.cr.cell 2 (.string (X.bs p.name))
       have f4:=H.out.cr.fz
       clear hx0 hvv
       rcases hk2 with hk2 | ⟨hk2,hk3⟩
       all_goals
        go_wp2_with fail
        refine (hnm _).mono ?_
        rintro e w5 ⟨rfl,rfl⟩
        go_wp2_with fail
        go_roundw
        case rel =>
         first
         | exact ⟨i + 1,_,_,_,_,by omega,rfl,rfl,by go_num,HM.out⟩
         | (repeat apply Exists.intro); refine ⟨?_,rfl⟩; exact ⟨i + 1,_,_,_,_,by omega,rfl,rfl,by go_num,HM.out⟩
        case measure => show fm.size - ((i:Int) + 1).toNat < fm.size - (i:Int).toNat; omega
      ·
       --%R2
       have HE:=hid' (show r = .error 71 by rw [HR.out,HBO.out,HER.out 71 (if_neg (fun h => h118 (by have:=h.2 hvv; rw [hx0] at this; rw [this]; rfl)))]; rfl)
       have h118i:¬ (si[0].toNat:Int) = 118:=by omega
       have h118b:((si[0].toNat:Int) == 118) = false:=by simpa using h118i
       have HQ:=H
       clear hx0 hvv
       rcases hk2 with hk2 | ⟨hk2,hk3⟩
       ·
        go_wp2_with fail
        refine (hnm _).mono ?_
        rintro e w5 ⟨rfl,rfl⟩
        have d0:=HQ.out.rr.cell 0 (.string ⟨#[]⟩)
        have d1:=HQ.out.rr.cell 1 (.slice none 0 0)
        have d2:=HQ.out.rr.cell 2 (.string ⟨#[]⟩)
        have d3:=HQ.out.rr.cell 3 (.int .i64 0)
        have d4:=HQ.out.rr.cell 4 (.int .i64 0)
        have d5:=HQ.out.rr.cell 5 (.int .i64 0)
        have d6:=HQ.out.rr.cell 6 (.slice none 0 0)
        have d7:=HQ.out.rr.cell 7 (.slice none 0 0)
        have zd:=HQ.out.rr.fz
        go_wp2_with fail
        refine bodyPost_ret (v:=.tuple #[.agg #[.string ⟨#[]⟩,.slice none 0 0,.string ⟨#[]⟩,.int .i64 0,.int .i64 0,.int .i64 0,.slice none 0 0,.slice none 0 0],.int .i64 71]) (by simp [results,Tryz.results7,go_sem,d0,d1,d2,d3,d4,d5,d6,d7]) rfl ⟨?_,?_⟩
        ·
         exact Kept.set8 HQ.out.kp (by rw [HRB.out]; exact Nat.le_refl _) _ _ _ _ _ _ _ _
        ·
         rw [HE.out]
         exact ⟨rfl,by first | decide | assumption⟩
       ·
        go_wp2_with fail
        refine (hnm _).mono ?_
        rintro e w5 ⟨rfl,rfl⟩
        have d0:=HQ.out.rr.cell 0 (.string ⟨#[]⟩)
        have d1:=HQ.out.rr.cell 1 (.slice none 0 0)
        have d2:=HQ.out.rr.cell 2 (.string ⟨#[]⟩)
        have d3:=HQ.out.rr.cell 3 (.int .i64 0)
        have d4:=HQ.out.rr.cell 4 (.int .i64 0)
        have d5:=HQ.out.rr.cell 5 (.int .i64 0)
        have d6:=HQ.out.rr.cell 6 (.slice none 0 0)
        have d7:=HQ.out.rr.cell 7 (.slice none 0 0)
        have zd:=HQ.out.rr.fz
        go_wp2_with fail
        refine bodyPost_ret (v:=.tuple #[.agg #[.string ⟨#[]⟩,.slice none 0 0,.string ⟨#[]⟩,.int .i64 0,.int .i64 0,.int .i64 0,.slice none 0 0,.slice none 0 0],.int .i64 71]) (by simp [results,Tryz.results7,go_sem,d0,d1,d2,d3,d4,d5,d6,d7]) rfl ⟨?_,?_⟩
        ·
         exact Kept.set8 HQ.out.kp (by rw [HRB.out]; exact Nat.le_refl _) _ _ _ _ _ _ _ _
        ·
         rw [HE.out]
         exact ⟨rfl,by first | decide | assumption⟩
     ·
      --%R3
      have hk2:¬ s0[0].toNat = 102/\¬ s0[0].toNat = 104:=by
       have hV:=HVK.out
       rw [hvv] at hV
       exact ⟨fun e => absurd (hV.2 (.inl e)) (by decide),fun e => absurd (hV.2 (.inr e)) (by decide)⟩
      obtain ⟨hk2,hk3⟩:=hk2
      have hk2i:¬ (s0[0].toNat:Int) = 102:=by omega
      have hk3i:¬ (s0[0].toNat:Int) = 104:=by omega
      have hk2b:((s0[0].toNat:Int) == 102) = false:=by simpa using hk2i
      have hk3b:((s0[0].toNat:Int) == 104) = false:=by simpa using hk3i
      have HZ:=hid' (HOK.out _ (if_pos ⟨hok,fun e => by rw [hvv] at e; cases e⟩))
      have HM:=hid' (cqi_ref H.out HZ.out)
      rw [<- HSI.out.1] at HM
      have e4:=H.out.cr.cell 2 (.string (X.bs p.name))
      have f4:=H.out.cr.fz
      clear hx0 hvv
      go_wp2_with fail
      refine (hnm _).mono ?_
      rintro e w5 ⟨rfl,rfl⟩
      go_wp2_with fail
      go_roundw
      case rel => exact ⟨i + 1,_,_,_,_,by omega,rfl,rfl,by go_num,HM.out⟩
      case measure => show fm.size - ((i:Int) + 1).toNat < fm.size - (i:Int).toNat; omega
   have k2i:¬ (fm[i].toNat:Int) = 82:=by omega
   have k2b:((fm[i].toNat:Int) == 82) = false:=by simpa using k2i
   by_cases k3:fm[i].toNat = 88
   ·
    --%X
    have k3':fm[i] = 88:=UInt8.toNat_inj.1 k3
    rw [k3'] at HER HOK
    simp only [on88] at HER HOK
    have k3i:(fm[i].toNat:Int) = 88:=by omega
    have k3b:((fm[i].toNat:Int) == 88) = true:=by simpa using k3i
    have hpa:=fun V => rparse_any si V (by unfold maxLen; omega)
    rw [HSI.out.2] at hpa
    obtain ⟨⟨y0,y1,yc⟩,hy⟩:∃ y,y = parseOf x:=⟨_,rfl⟩
    rw [<- hy] at hpa HER HOK
    unfold numE at hpa
    simp only at hpa HER HOK
    clear hy k3'
    obtain ⟨i0,hi,hz0,hz1,hz2⟩:=info_parts info_num
    go_wp2_with fail
    refine (hpa _).mono ?_
    rintro e w5 ⟨hk5,rfl⟩
    have HQ:=hid' (H.out.kept hk5)
    clear hk5 hpa ci
    by_cases hyc:yc = 0
    rotate_left
    ·
     have hyc':(yc == 0) = false:=by simpa using hyc
     have HE:=hid' (show r = .error yc by rw [HR.out,HBO.out,HER.out yc (by rw [if_neg hyc])]; rfl)
     have KA:=(Kept.refl w5).alloc (.cells #[.int .i64 y0,.int .i64 y1] 26)
     have HQ:=hid' (HQ.out.kept KA)
     clear KA
     have d0:=HQ.out.rr.cell 0 (.string ⟨#[]⟩)
     have d1:=HQ.out.rr.cell 1 (.slice none 0 0)
     have d2:=HQ.out.rr.cell 2 (.string ⟨#[]⟩)
     have d3:=HQ.out.rr.cell 3 (.int .i64 0)
     have d4:=HQ.out.rr.cell 4 (.int .i64 0)
     have d5:=HQ.out.rr.cell 5 (.int .i64 0)
     have d6:=HQ.out.rr.cell 6 (.slice none 0 0)
     have d7:=HQ.out.rr.cell 7 (.slice none 0 0)
     have zd:=HQ.out.rr.fz
     go_wp2_with fail
     refine bodyPost_ret (v:=.tuple #[.agg #[.string ⟨#[]⟩,.slice none 0 0,.string ⟨#[]⟩,.int .i64 0,.int .i64 0,.int .i64 0,.slice none 0 0,.slice none 0 0],.int .i64 yc]) (by simp [results,Tryz.results7,go_sem,d0,d1,d2,d3,d4,d5,d6,d7]) rfl ⟨?_,?_⟩
     ·
      exact Kept.set8 HQ.out.kp (by rw [HRB.out]; exact Nat.le_refl _) _ _ _ _ _ _ _ _
     ·
      rw [HE.out]
      exact ⟨rfl,by first | decide | assumption⟩
    subst hyc
    have HZ:=hid' (HOK.out _ (if_pos rfl))
    have KA:=((Kept.refl w5).alloc (.cells #[.int .i64 y0,.int .i64 y1] 26)).alloc (.cells #[.int .i64 y0,.int .i64 y1] 26)
    go_wp2_with (at_builtin; refine wpList_append_lies _ rfl (.tmp 105) (.tmp 107) 27 rfl (cb + 1) 26 i0 (.agg #[.int .i64 0,.int .i64 0]) 2 16 und_nums hi hz0 hz1 hz2 rfl (by decide) _ p.nums.length (ncs p.nums) rfl (by exact (HQ.out.kept KA).ox) ⟨w5.heap.size + 1,0,none⟩ 1 1 [.int .i64 y0,.int .i64 y1] rfl rfl (by exact cell_two' w5 _ _ _ _ _) (fun u hu => by simp at hu; rcases hu with rfl | rfl <;> rfl) (by omega) (by unfold maxLen; omega) (by omega) (by have:=HQ.out.cr.lt; simp; omega) _ rfl ?_)
    intro g4 cap4 W4 own4 hg4 hgg _
    have HM:=hid' (cqi_num HQ.out KA own4 hg4 HZ.out)
    clear own4 hg4 hgg KA
    go_wp2_with fail
    go_roundw
    case rel => exact ⟨i + 1,_,_,_,_,by omega,rfl,rfl,by go_num,HM.out⟩
    case measure => show fm.size - ((i:Int) + 1).toNat < fm.size - (i:Int).toNat; omega
   have k3i:¬ (fm[i].toNat:Int) = 88:=by omega
   have k3b:((fm[i].toNat:Int) == 88) = false:=by simpa using k3i
   by_cases k4:fm[i].toNat = 83
   ·
    --%S
    have k4':fm[i] = 83:=UInt8.toNat_inj.1 k4
    rw [k4'] at HER HOK
    simp only [on83] at HER HOK
    have k4i:(fm[i].toNat:Int) = 83:=by omega
    have k4b:((fm[i].toNat:Int) == 83) = true:=by simpa using k4i
    have hst:=fun V => rstep_any si V (by omega)
    rw [HSI.out.2] at hst
    unfold stepR at hst
    obtain ⟨⟨z,zk⟩,hy⟩:∃ y,y = stepT x:=⟨_,rfl⟩
    rw [<- hy] at hst HER HOK
    simp only at hst HER HOK
    clear hy k4'
    obtain ⟨i0,hi,hz0,hz1,hz2⟩:=info_parts info_i64
    cases zk with
    | false =>
     rw [if_neg (by decide)] at hst
     have HE:=hid' (show r = .error 3 by rw [HR.out,HBO.out,HER.out 3 (by rw [if_neg (by decide)])]; rfl)
     go_wp2_with fail
     refine (hst _).mono ?_
     rintro e w5 ⟨hk5,rfl⟩
     have HQ:=hid' (H.out.kept hk5)
     clear hk5 hst ci
     have d0:=HQ.out.rr.cell 0 (.string ⟨#[]⟩)
     have d1:=HQ.out.rr.cell 1 (.slice none 0 0)
     have d2:=HQ.out.rr.cell 2 (.string ⟨#[]⟩)
     have d3:=HQ.out.rr.cell 3 (.int .i64 0)
     have d4:=HQ.out.rr.cell 4 (.int .i64 0)
     have d5:=HQ.out.rr.cell 5 (.int .i64 0)
     have d6:=HQ.out.rr.cell 6 (.slice none 0 0)
     have d7:=HQ.out.rr.cell 7 (.slice none 0 0)
     have zd:=HQ.out.rr.fz
     go_wp2_with fail
     refine bodyPost_ret (v:=.tuple #[.agg #[.string ⟨#[]⟩,.slice none 0 0,.string ⟨#[]⟩,.int .i64 0,.int .i64 0,.int .i64 0,.slice none 0 0,.slice none 0 0],.int .i64 3]) (by simp [results,Tryz.results7,go_sem,d0,d1,d2,d3,d4,d5,d6,d7]) rfl ⟨?_,?_⟩
     ·
      exact Kept.set8 HQ.out.kp (by rw [HRB.out]; exact Nat.le_refl _) _ _ _ _ _ _ _ _
     ·
      rw [HE.out]
      exact ⟨rfl,by first | decide | assumption⟩
    | true =>
     rw [if_pos rfl] at hst
     have HZ:=hid' (HOK.out _ (if_pos rfl))
     go_wp2_with fail
     refine (hst _).mono ?_
     rintro e w5 ⟨hk5,rfl⟩
     have HQ:=hid' (H.out.kept hk5)
     clear hk5 hst ci
     have KA:=(Kept.refl w5).alloc (.cells #[.int .i64 z] 3)
     go_wp2_with (at_builtin; refine wpList_append_lies _ rfl (.tmp 119) (.tmp 121) 28 rfl (cb + 1) 3 i0 (.int .i64 0) 1 8 und_ints hi hz0 hz1 hz2 rfl (by decide) _ p.steps.length (p.steps.map (Value.int .i64)) rfl (by exact (HQ.out.kept KA).os) ⟨w5.heap.size,0,none⟩ 1 1 [.int .i64 z] rfl rfl (X.cell_new w5 _ _) (fun u hu => by simp at hu; subst hu; rfl) (by omega) (by unfold maxLen; omega) (by omega) (by have:=HQ.out.cr.lt; simp; omega) _ rfl ?_)
     intro g4 cap4 W4 own4 hg4 hgg _
     have HM:=hid' (cqi_step HQ.out KA own4 hg4 HZ.out)
     clear own4 hg4 hgg KA
     go_wp2_with fail
     go_roundw
     case rel => exact ⟨i + 1,_,_,_,_,by omega,rfl,rfl,by go_num,HM.out⟩
     case measure => show fm.size - ((i:Int) + 1).toNat < fm.size - (i:Int).toNat; omega
   --%O
   have k4i:¬ (fm[i].toNat:Int) = 83:=by omega
   have k4b:((fm[i].toNat:Int) == 83) = false:=by simpa using k4i
   have HM:=hid' (H.out.skip (HOK.out _ (onNo vk p _ x (fun e => k1 (by rw [e]; rfl)) (fun e => k2 (by rw [e]; rfl)) (fun e => k3 (by rw [e]; rfl)) (fun e => k4 (by rw [e]; rfl)))))
   go_wp2_with fail
   go_roundw
   case rel => exact ⟨i + 1,_,_,_,_,by omega,rfl,rfl,by go_num,HM.out⟩
   case measure => show fm.size - ((i:Int) + 1).toNat < fm.size - (i:Int).toNat; omega
  ·
   --%Z
   have hii:¬ (i:Int) < (fm.size:Int):=by omega
   obtain rfl:i = fm.size:=by omega
   have HP:=hid' (show onAll vk Pt.zero FF = .ok p by rw [H.out.eq,List.drop_eq_nil_of_le (by have:=HFC.out; omega)]; rfl)
   have HB:=hid' (show r = rendC (cardS ws p) by rw [HR.out,HBO.out,HP.out]; rfl)
   have hln:=H.out.ln
   have hlx:=H.out.lx
   have hls:=H.out.ls
   obtain ⟨a1,k1,rfl⟩:=own_shape H.out.on
   obtain ⟨a2,k2,rfl⟩:=own_shape H.out.ox
   obtain ⟨a3,k3,rfl⟩:=own_shape H.out.os
   obtain ⟨s2,hs2⟩:∃ s,s = X.bs p.name:=⟨_,rfl⟩
   have HS2:=hid' hs2
   have HE0:Hid (CqE w wr rb cb [.string s0,.slice a1 p.nodes.length k1,.string s2,.int .i64 0,.int .i64 0,.int .i64 0,.slice none 0 0,.slice none 0 0] p (.slice a1 p.nodes.length k1) (.slice a2 p.nums.length k2) (.slice a3 p.steps.length k3)):=⟨H.out.kp,H.out.le,H.out.lt,H.out.rr,by rw [hs2]; exact H.out.cr,H.out.on,H.out.ox,H.out.os⟩
   have hZm:∀ (M:Prop),M->M:=fun _ h => h
   clear hs2 H hii HSL HFA hZm
   by_cases hw:waveC (headC ws) = true
   ·
    --%W
    have hd:=HWV.out hw
    have hcs:=cardS_wave (ws:=ws) (p:=p) hw
    have hkd:s0[0].toNat = 118 ∨ s0[0].toNat = 105:=by
     have h1:=of_decide_eq_true hw
     simp only [List.mem_cons,List.not_mem_nil,or_false] at h1
     rw [HQ0.out]
     rcases h1 with e | e <;> rw [e] <;> simp
    obtain ⟨kd,hkde⟩:∃ k,k = wkindL (ws.getD 3 []):=⟨_,rfl⟩
    have HKD:=hid' hkde
    rw [<- hkde] at hcs
    have HCS:=hid' hcs
    have h3n:3 < n:=by have:=HLN.out; omega
    have h3i:(3:Int) < (n:Int):=by omega
    have h2f:2 < fm.size:=by have:=HFC.out.1; omega
    have h2i:(2:Int) < (fm.size:Int):=by omega
    have hf2:fc.getD 2 0 = fm[2]:=by
     have h1:=bl_at' fm 2 h2f
     have h2:fm.data.toList = fc:=by rw [HFC.out.2.2.2.2,bs_list]
     rw [h2] at h1
     rw [List.getD_eq_getElem?_getD,h1]
     rfl
    rw [hf2] at hd
    obtain ⟨x3,hx3⟩:∃ x,x = ws.getD 3 []:=⟨_,rfl⟩
    rw [<- hx3] at hd hkde
    have c3:=(Below.cell HE0.out.kp (p:=⟨b,off + 3,none⟩) ck.out.1).trans (ck.out.2 3 h3n)
    rw [<- hx3] at c3
    obtain ⟨s3,hs3⟩:∃ s,s = X.bs x3:=⟨_,rfl⟩
    rw [<- hs3] at c3
    have ht3:s3.toList = x3:=by rw [hs3,ByteArray.toList_eq,bs_list]
    have HD:=hid' (And.intro hd.2.2 (And.intro hkde ht3))
    have HBLT:=hid' (Nat.lt_of_lt_of_le ck.out.1 HE0.out.kp.size)
    have hbc:¬ b = cb:=by have:=ck.out.1; have:=HE0.out.le; have:=HE0.out.lt; omega
    have HCK:=hid' (And.intro ck.out.1 ((ck.out.2 3 h3n).trans (by rw [<- hx3,<- hs3])))
    clear hd hkde hcs hf2 hx3 hs3 ht3 ck c3 HBLT
    go_upto_region 33 with fail
    go_cut [128] (fun v wc => v = .bool false/\Hid (wc = wr))
    case first =>
     --%W1
     have hk9:((s0[0].toNat:Int) != 118) = false ∨ (((s0[0].toNat:Int) != 118) = true/\((s0[0].toNat:Int) != 105) = false):=by
      rcases hkd with e | e
      ·
       left; rw [e]; rfl
      ·
       right; rw [e]; exact ⟨rfl,rfl⟩
     clear hkd
     rcases hk9 with hk | ⟨hk,hk'⟩
     all_goals
      go_wp2_with fail
      go_meet
      case rel => exact ⟨rfl,rfl⟩
    case rest =>
    --%W2
    obtain ⟨rfl,hwc⟩:=hcut
    obtain rfl:=hwc.out
    clear hwc hkd
    have e0:=HE0.out.cr.cell 5 (.int .i64 0)
    have e1:=HE0.out.cr.cell 6 (.slice none 0 0)
    have e2:=HE0.out.cr.cell 7 (.slice none 0 0)
    have ez:=HE0.out.cr.fz
    have HE1:=hid' (((HE0.out.set 5 (.int .i64 1)).set 6 (.slice a2 p.nums.length k2)).set 7 (.slice a3 p.steps.length k3))
    go_upto_if 160 with fail
    generalize (((wc.setCell ⟨cb,5,none⟩ (.int .i64 1)).setCell ⟨cb,6,none⟩ (.slice a2 p.nums.length k2)).setCell ⟨cb,7,none⟩ (.slice a3 p.steps.length k3)) = W5 at HE1 ⊢
    clear e0 e1 e2 ez
    go_cut [] (fun wx => Hid (CqE w wx rb cb [.string s0,.slice a1 p.nodes.length k1,.string s2,.int .i64 0,.int .i64 0,.int .i64 kd,.slice a2 p.nums.length k2,.slice a3 p.steps.length k3] p (.slice a1 p.nodes.length k1) (.slice a2 p.nums.length k2) (.slice a3 p.steps.length k3)))
    case first =>
     --%W3
     have f5:=HE1.out.cr.cell 5 (.int .i64 1)
     have ez:=HE1.out.cr.fz
     have c3:=(Below.cell HE1.out.kp (p:=⟨b,off + 3,none⟩) HCK.out.1).trans HCK.out.2
     rcases HD.out.1 with ⟨hd1,hd2⟩ | ⟨hd1,hd2⟩
     ·
      have hdn:fm[2].toNat = 46:=by rw [hd1]; rfl
      have hdi:(fm[2].toNat:Int) = 46:=by omega
      have hdb:((fm[2].toNat:Int) == 46) = true:=by simpa using hdi
      clear hd1
      rcases hd2 with e | e | e | e
      ·
       have b1:(s3.toList == [112,117,108,115,101]) = false:=by rw [HD.out.2.2,e]; rfl
       have b2:(s3.toList == [112,119,108]) = false:=by rw [HD.out.2.2,e]; rfl
       have b3:(s3.toList == [116,97,98,108,101]) = false:=by rw [HD.out.2.2,e]; rfl
       have hk9:kd = 1:=by rw [HD.out.2.1,e]; rfl
       subst hk9
       clear e
       go_wp2_with fail
       go_meet
       case rel => exact HE1.out
      ·
       have b1:(s3.toList == [112,117,108,115,101]) = true:=by rw [HD.out.2.2,e]; rfl
       have hk9:kd = 2:=by rw [HD.out.2.1,e]; rfl
       have HE2:=hid' (HE1.out.set 5 (.int .i64 2))
       subst hk9
       clear e
       go_wp2_with fail
       go_meet
       case rel => exact HE2.out
      ·
       have b1:(s3.toList == [112,117,108,115,101]) = false:=by rw [HD.out.2.2,e]; rfl
       have b2:(s3.toList == [112,119,108]) = true:=by rw [HD.out.2.2,e]; rfl
       have hk9:kd = 3:=by rw [HD.out.2.1,e]; rfl
       have HE2:=hid' (HE1.out.set 5 (.int .i64 3))
       subst hk9
       clear e
       go_wp2_with fail
       go_meet
       case rel => exact HE2.out
      ·
       have b1:(s3.toList == [112,117,108,115,101]) = false:=by rw [HD.out.2.2,e]; rfl
       have b2:(s3.toList == [112,119,108]) = false:=by rw [HD.out.2.2,e]; rfl
       have b3:(s3.toList == [116,97,98,108,101]) = true:=by rw [HD.out.2.2,e]; rfl
       have hk9:kd = 4:=by rw [HD.out.2.1,e]; rfl
       have HE2:=hid' (HE1.out.set 5 (.int .i64 4))
       subst hk9
       clear e
       go_wp2_with fail
       go_meet
       case rel => exact HE2.out
     ·
      have hdn:¬ fm[2].toNat = 46:=by rw [hd1]; decide
      have hdi:¬ (fm[2].toNat:Int) = 46:=by omega
      have hdb:((fm[2].toNat:Int) == 46) = false:=by simpa using hdi
      have hk9:kd = 1:=by rw [HD.out.2.1]; exact hd2
      subst hk9
      clear hd1 hd2
      go_wp2_with fail
      go_meet
      case rel => exact HE1.out
    case rest =>
    --%W4
    have HQ:=hcut
    have f5:=HQ.out.cr.cell 5 (.int .i64 kd)
    have f6:=HQ.out.cr.cell 6 (.slice a2 p.nums.length k2)
    have f7:=HQ.out.cr.cell 7 (.slice a3 p.steps.length k3)
    have hva:=rvalid_any kd a2 a3 p.nums.length k2 p.steps.length k3 p.nums p.steps _ (OwnN.nsl HQ.out.ox) (OwnI.isl HQ.out.os) (by omega) (by omega)
    have HB2:=hid' (show r = if okW kd p.nums p.steps = false then .error 40 else .ok ⟨ws.getD 0 [],p.nodes,p.name,(0,0),kd,p.nums,p.steps⟩ by
     rw [HB.out,HCS.out]
     unfold rendC
     show (if waveC (headC ws) = true then _ else _) = _
     rw [if_pos hw])
    clear hcut HE0 HE1
    generalize okW kd p.nums p.steps = ok at hva HB2
    go_wp2_with fail
    refine hva.mono ?_
    rintro e w6 ⟨hk6,rfl⟩
    have HQ:=hid' (HQ.out.kept hk6)
    clear hk6 hva f5 f6 f7
    cases ok
    ·
     have HE:=hid' (show r = .error 40 by rw [HB2.out,if_pos rfl])
     have d0:=HQ.out.rr.cell 0 (.string ⟨#[]⟩)
     have d1:=HQ.out.rr.cell 1 (.slice none 0 0)
     have d2:=HQ.out.rr.cell 2 (.string ⟨#[]⟩)
     have d3:=HQ.out.rr.cell 3 (.int .i64 0)
     have d4:=HQ.out.rr.cell 4 (.int .i64 0)
     have d5:=HQ.out.rr.cell 5 (.int .i64 0)
     have d6:=HQ.out.rr.cell 6 (.slice none 0 0)
     have d7:=HQ.out.rr.cell 7 (.slice none 0 0)
     have zd:=HQ.out.rr.fz
     go_wp2_with fail
     refine bodyPost_ret (v:=.tuple #[.agg #[.string ⟨#[]⟩,.slice none 0 0,.string ⟨#[]⟩,.int .i64 0,.int .i64 0,.int .i64 0,.slice none 0 0,.slice none 0 0],.int .i64 40]) (by simp [results,Tryz.results7,go_sem,d0,d1,d2,d3,d4,d5,d6,d7]) rfl ⟨?_,?_⟩
     ·
      exact Kept.set8 HQ.out.kp (by rw [HRB.out]; exact Nat.le_refl _) _ _ _ _ _ _ _ _
     ·
      rw [HE.out]
      exact ⟨rfl,by first | decide | assumption⟩
    ·
     have HE:=hid' (show r = .ok ⟨ws.getD 0 [],p.nodes,p.name,(0,0),kd,p.nums,p.steps⟩ by rw [HB2.out,if_neg (by decide)])
     have c0:=HQ.out.cr.cell 0 (.string s0)
     have c1:=HQ.out.cr.cell 1 (.slice a1 p.nodes.length k1)
     have c2:=HQ.out.cr.cell 2 (.string s2)
     have c3:=HQ.out.cr.cell 3 (.int .i64 0)
     have c4:=HQ.out.cr.cell 4 (.int .i64 0)
     have c5:=HQ.out.cr.cell 5 (.int .i64 kd)
     have c6:=HQ.out.cr.cell 6 (.slice a2 p.nums.length k2)
     have c7:=HQ.out.cr.cell 7 (.slice a3 p.steps.length k3)
     have d0:=HQ.out.rr.cell 0 (.string ⟨#[]⟩)
     have d1:=HQ.out.rr.cell 1 (.slice none 0 0)
     have d2:=HQ.out.rr.cell 2 (.string ⟨#[]⟩)
     have d3:=HQ.out.rr.cell 3 (.int .i64 0)
     have d4:=HQ.out.rr.cell 4 (.int .i64 0)
     have d5:=HQ.out.rr.cell 5 (.int .i64 0)
     have d6:=HQ.out.rr.cell 6 (.slice none 0 0)
     have d7:=HQ.out.rr.cell 7 (.slice none 0 0)
     have zd:=HQ.out.rr.fz
     have hne:¬ rb = cb:=by have:=HQ.out.lt; omega
     have hne':¬ cb = rb:=fun e => hne e.symm
     have HFIN:=hid' (fin_own (B':=w.heap.size) (rb:=rb) (x0:=.string s0) (x1:=.slice a1 p.nodes.length k1) (x2:=.string s2) (x3:=.int .i64 0) (x4:=.int .i64 0) (x5:=.int .i64 kd) (x6:=.slice a2 p.nums.length k2) (x7:=.slice a3 p.steps.length k3) HQ.out.rr ⟨HQ.out.on,HQ.out.ox,HQ.out.os⟩ (by have:=HQ.out.le; have:=HQ.out.lt; omega))
     go_wp2_with fail
     refine bodyPost_ret (v:=.tuple #[.agg #[.string s0,.slice a1 p.nodes.length k1,.string s2,.int .i64 0,.int .i64 0,.int .i64 kd,.slice a2 p.nums.length k2,.slice a3 p.steps.length k3],.int .i64 0]) (by simp [results,Tryz.results7,go_sem,d0,d1,d2,d3,d4,d5,d6,d7]) rfl ⟨?_,?_⟩
     ·
      exact Kept.set8 HQ.out.kp (by rw [HRB.out]; exact Nat.le_refl _) _ _ _ _ _ _ _ _
     ·
      rw [HE.out]
      exact ⟨_,rfl,_,_,_,by unfold cdV; rw [<- HS2.out,<- HS0.out],HFIN.out.1,HFIN.out.2.1,HFIN.out.2.2⟩
   ·
    --%V
    have hw:waveC (headC ws) = false:=by simpa using hw
    have hcs:=HPL.out p hw HP.out
    have hk1:¬ s0[0].toNat = 118:=by
     intro e
     rw [HQ0.out] at e
     rw [show headC ws = 118 from UInt8.toNat_inj.1 e] at hw
     exact absurd hw (by decide)
    have hk2:¬ s0[0].toNat = 105:=by
     intro e
     rw [HQ0.out] at e
     rw [show headC ws = 105 from UInt8.toNat_inj.1 e] at hw
     exact absurd hw (by decide)
    have hk1i:¬ (s0[0].toNat:Int) = 118:=by omega
    have hk2i:¬ (s0[0].toNat:Int) = 105:=by omega
    have hk1b:((s0[0].toNat:Int) == 118) = false:=by simpa using hk1i
    have hk2b:((s0[0].toNat:Int) == 105) = false:=by simpa using hk2i
    have hk1n:((s0[0].toNat:Int) != 118) = true:=by rw [bne,hk1b]; rfl
    have hk2n:((s0[0].toNat:Int) != 105) = true:=by rw [bne,hk2b]; rfl
    obtain ⟨⟨vm,vx⟩,hv⟩:∃ y,y = p.nums.getD 0 (0,0):=⟨_,rfl⟩
    rw [<- hv] at hcs
    have HB2:=hid' (show r = if zeroC (headC ws) = true/\vm = 0 then .error 11 else .ok ⟨ws.getD 0 [],p.nodes,p.name,(vm,vx),0,[],[]⟩ by
     rw [HB.out,hcs]
     unfold rendC
     show (if waveC (headC ws) = true then _ else _) = _
     rw [if_neg (by rw [hw]; decide)]
     rfl)
    have HV:=hid' hv
    clear hv hcs
    obtain ⟨ln,hlne⟩:∃ l,l = p.nums.length:=⟨_,rfl⟩
    rw [<- hlne] at HE0 hlx ⊢
    have HLL:=hid' hlne
    clear hlne
    go_upto_if 131 with fail
    go_cut [] (fun wc => Hid (CqE w wc rb cb [.string s0,.slice a1 p.nodes.length k1,.string s2,.int .i64 vm,.int .i64 vx,.int .i64 0,.slice none 0 0,.slice none 0 0] p (.slice a1 p.nodes.length k1) (.slice a2 ln k2) (.slice a3 p.steps.length k3)))
    case first =>
     --%V1
     by_cases hx:ln = 0
     ·
      have hv0:=HV.out
      rw [List.eq_nil_of_length_eq_zero (HLL.out.symm.trans hx)] at hv0
      simp at hv0
      obtain ⟨rfl,rfl⟩:=hv0
      subst hx
      go_wp2_with fail
      go_meet
      case rel => exact HE0.out
     ·
      have hxn:0 < ln:=by omega
      have hxi:(0:Int) < (ln:Int):=by omega
      obtain ⟨g,cap,hg0,_,hgl,_,hgc,_⟩:=own_cell HE0.out.ox (by rw [<- HLL.out]; exact hxn)
      simp only [Value.slice.injEq] at hg0
      obtain ⟨rfl,hq9,rfl⟩:=hg0
      clear hq9
      have hn1:=(ncs_at p.nums 0 (by rw [<- HLL.out]; exact hxn))
      rw [<- HV.out] at hn1
      have g0:=hgc 0 _ hn1.1
      have g1:=hgc 1 _ hn1.2
      have e3:=HE0.out.cr.cell 3 (.int .i64 0)
      have e4:=HE0.out.cr.cell 4 (.int .i64 0)
      have ez:=HE0.out.cr.fz
      have HE1:=hid' ((HE0.out.set 3 (.int .i64 vm)).set 4 (.int .i64 vx))
      clear hgc hn1 hx
      go_wp2_with fail
      go_meet
      case rel => exact HE1.out
    case rest =>
    --%V2
    have HQ:=hcut
    clear hcut HE0
    by_cases hz:zeroC (headC ws) = true
    ·
     have hlt:s0[0].toNat = 114 ∨ s0[0].toNat = 99 ∨ s0[0].toNat = 108:=by
      have h1:=of_decide_eq_true hz
      simp only [List.mem_cons,List.not_mem_nil,or_false] at h1
      rw [HQ0.out]
      rcases h1 with e | e | e <;> rw [e] <;> simp
     have ex:=HQ.out.cr.cell 3 (.int .i64 vm)
     by_cases hm:vm = 0
     ·
      --%V3
      have HE:=hid' (show r = .error 11 by rw [HB2.out,if_pos ⟨hz,hm⟩])
      subst hm
      rcases hlt with hl | hl | hl
      ·
       have hli:(s0[0].toNat:Int) = s0[0].toNat:=rfl
       have d0:=HQ.out.rr.cell 0 (.string ⟨#[]⟩)
       have d1:=HQ.out.rr.cell 1 (.slice none 0 0)
       have d2:=HQ.out.rr.cell 2 (.string ⟨#[]⟩)
       have d3:=HQ.out.rr.cell 3 (.int .i64 0)
       have d4:=HQ.out.rr.cell 4 (.int .i64 0)
       have d5:=HQ.out.rr.cell 5 (.int .i64 0)
       have d6:=HQ.out.rr.cell 6 (.slice none 0 0)
       have d7:=HQ.out.rr.cell 7 (.slice none 0 0)
       have zd:=HQ.out.rr.fz
       go_wp2_with fail
       refine bodyPost_ret (v:=.tuple #[.agg #[.string ⟨#[]⟩,.slice none 0 0,.string ⟨#[]⟩,.int .i64 0,.int .i64 0,.int .i64 0,.slice none 0 0,.slice none 0 0],.int .i64 11]) (by simp [results,Tryz.results7,go_sem,d0,d1,d2,d3,d4,d5,d6,d7]) rfl ⟨?_,?_⟩
       ·
        exact Kept.set8 HQ.out.kp (by rw [HRB.out]; exact Nat.le_refl _) _ _ _ _ _ _ _ _
       ·
        rw [HE.out]
        exact ⟨rfl,by first | decide | assumption⟩
      ·
       have hli:(s0[0].toNat:Int) = s0[0].toNat:=rfl
       have d0:=HQ.out.rr.cell 0 (.string ⟨#[]⟩)
       have d1:=HQ.out.rr.cell 1 (.slice none 0 0)
       have d2:=HQ.out.rr.cell 2 (.string ⟨#[]⟩)
       have d3:=HQ.out.rr.cell 3 (.int .i64 0)
       have d4:=HQ.out.rr.cell 4 (.int .i64 0)
       have d5:=HQ.out.rr.cell 5 (.int .i64 0)
       have d6:=HQ.out.rr.cell 6 (.slice none 0 0)
       have d7:=HQ.out.rr.cell 7 (.slice none 0 0)
       have zd:=HQ.out.rr.fz
       go_wp2_with fail
       refine bodyPost_ret (v:=.tuple #[.agg #[.string ⟨#[]⟩,.slice none 0 0,.string ⟨#[]⟩,.int .i64 0,.int .i64 0,.int .i64 0,.slice none 0 0,.slice none 0 0],.int .i64 11]) (by simp [results,Tryz.results7,go_sem,d0,d1,d2,d3,d4,d5,d6,d7]) rfl ⟨?_,?_⟩
       ·
        exact Kept.set8 HQ.out.kp (by rw [HRB.out]; exact Nat.le_refl _) _ _ _ _ _ _ _ _
       ·
        rw [HE.out]
        exact ⟨rfl,by first | decide | assumption⟩
      ·
       have hli:(s0[0].toNat:Int) = s0[0].toNat:=rfl
       have d0:=HQ.out.rr.cell 0 (.string ⟨#[]⟩)
       have d1:=HQ.out.rr.cell 1 (.slice none 0 0)
       have d2:=HQ.out.rr.cell 2 (.string ⟨#[]⟩)
       have d3:=HQ.out.rr.cell 3 (.int .i64 0)
       have d4:=HQ.out.rr.cell 4 (.int .i64 0)
       have d5:=HQ.out.rr.cell 5 (.int .i64 0)
       have d6:=HQ.out.rr.cell 6 (.slice none 0 0)
       have d7:=HQ.out.rr.cell 7 (.slice none 0 0)
       have zd:=HQ.out.rr.fz
       go_wp2_with fail
       refine bodyPost_ret (v:=.tuple #[.agg #[.string ⟨#[]⟩,.slice none 0 0,.string ⟨#[]⟩,.int .i64 0,.int .i64 0,.int .i64 0,.slice none 0 0,.slice none 0 0],.int .i64 11]) (by simp [results,Tryz.results7,go_sem,d0,d1,d2,d3,d4,d5,d6,d7]) rfl ⟨?_,?_⟩
       ·
        exact Kept.set8 HQ.out.kp (by rw [HRB.out]; exact Nat.le_refl _) _ _ _ _ _ _ _ _
       ·
        rw [HE.out]
        exact ⟨rfl,by first | decide | assumption⟩
     ·
      --%V4
      have HE:=hid' (show r = .ok ⟨ws.getD 0 [],p.nodes,p.name,(vm,vx),0,[],[]⟩ by rw [HB2.out,if_neg (fun h => hm h.2)])
      have hmb:(vm == 0) = false:=by simpa using hm
      rcases hlt with hl | hl | hl
      ·
       have hli:(s0[0].toNat:Int) = s0[0].toNat:=rfl
       have c0:=HQ.out.cr.cell 0 (.string s0)
       have c1:=HQ.out.cr.cell 1 (.slice a1 p.nodes.length k1)
       have c2:=HQ.out.cr.cell 2 (.string s2)
       have c3:=HQ.out.cr.cell 3 (.int .i64 vm)
       have c4:=HQ.out.cr.cell 4 (.int .i64 vx)
       have c5:=HQ.out.cr.cell 5 (.int .i64 0)
       have c6:=HQ.out.cr.cell 6 (.slice none 0 0)
       have c7:=HQ.out.cr.cell 7 (.slice none 0 0)
       have d0:=HQ.out.rr.cell 0 (.string ⟨#[]⟩)
       have d1:=HQ.out.rr.cell 1 (.slice none 0 0)
       have d2:=HQ.out.rr.cell 2 (.string ⟨#[]⟩)
       have d3:=HQ.out.rr.cell 3 (.int .i64 0)
       have d4:=HQ.out.rr.cell 4 (.int .i64 0)
       have d5:=HQ.out.rr.cell 5 (.int .i64 0)
       have d6:=HQ.out.rr.cell 6 (.slice none 0 0)
       have d7:=HQ.out.rr.cell 7 (.slice none 0 0)
       have zd:=HQ.out.rr.fz
       have hne:¬ rb = cb:=by have:=HQ.out.lt; omega
       have hne':¬ cb = rb:=fun e => hne e.symm
       have HFIN:=hid' (fin_own (B':=w.heap.size) (rb:=rb) (x0:=.string s0) (x1:=.slice a1 p.nodes.length k1) (x2:=.string s2) (x3:=.int .i64 vm) (x4:=.int .i64 vx) (x5:=.int .i64 0) (x6:=.slice none 0 0) (x7:=.slice none 0 0) HQ.out.rr ⟨HQ.out.on,HQ.out.ox,HQ.out.os⟩ (by have:=HQ.out.le; have:=HQ.out.lt; omega))
       go_wp2_with fail
       refine bodyPost_ret (v:=.tuple #[.agg #[.string s0,.slice a1 p.nodes.length k1,.string s2,.int .i64 vm,.int .i64 vx,.int .i64 0,.slice none 0 0,.slice none 0 0],.int .i64 0]) (by simp [results,Tryz.results7,go_sem,d0,d1,d2,d3,d4,d5,d6,d7]) rfl ⟨?_,?_⟩
       ·
        exact Kept.set8 HQ.out.kp (by rw [HRB.out]; exact Nat.le_refl _) _ _ _ _ _ _ _ _
       ·
        rw [HE.out]
        exact ⟨_,rfl,_,_,_,by unfold cdV; rw [<- HS2.out,<- HS0.out],HFIN.out.1,World.ownsRow_nil _ _ _ _,World.ownsRow_nil _ _ _ _⟩
      ·
       have hli:(s0[0].toNat:Int) = s0[0].toNat:=rfl
       have c0:=HQ.out.cr.cell 0 (.string s0)
       have c1:=HQ.out.cr.cell 1 (.slice a1 p.nodes.length k1)
       have c2:=HQ.out.cr.cell 2 (.string s2)
       have c3:=HQ.out.cr.cell 3 (.int .i64 vm)
       have c4:=HQ.out.cr.cell 4 (.int .i64 vx)
       have c5:=HQ.out.cr.cell 5 (.int .i64 0)
       have c6:=HQ.out.cr.cell 6 (.slice none 0 0)
       have c7:=HQ.out.cr.cell 7 (.slice none 0 0)
       have d0:=HQ.out.rr.cell 0 (.string ⟨#[]⟩)
       have d1:=HQ.out.rr.cell 1 (.slice none 0 0)
       have d2:=HQ.out.rr.cell 2 (.string ⟨#[]⟩)
       have d3:=HQ.out.rr.cell 3 (.int .i64 0)
       have d4:=HQ.out.rr.cell 4 (.int .i64 0)
       have d5:=HQ.out.rr.cell 5 (.int .i64 0)
       have d6:=HQ.out.rr.cell 6 (.slice none 0 0)
       have d7:=HQ.out.rr.cell 7 (.slice none 0 0)
       have zd:=HQ.out.rr.fz
       have hne:¬ rb = cb:=by have:=HQ.out.lt; omega
       have hne':¬ cb = rb:=fun e => hne e.symm
       have HFIN:=hid' (fin_own (B':=w.heap.size) (rb:=rb) (x0:=.string s0) (x1:=.slice a1 p.nodes.length k1) (x2:=.string s2) (x3:=.int .i64 vm) (x4:=.int .i64 vx) (x5:=.int .i64 0) (x6:=.slice none 0 0) (x7:=.slice none 0 0) HQ.out.rr ⟨HQ.out.on,HQ.out.ox,HQ.out.os⟩ (by have:=HQ.out.le; have:=HQ.out.lt; omega))
       go_wp2_with fail
       refine bodyPost_ret (v:=.tuple #[.agg #[.string s0,.slice a1 p.nodes.length k1,.string s2,.int .i64 vm,.int .i64 vx,.int .i64 0,.slice none 0 0,.slice none 0 0],.int .i64 0]) (by simp [results,Tryz.results7,go_sem,d0,d1,d2,d3,d4,d5,d6,d7]) rfl ⟨?_,?_⟩
       ·
        exact Kept.set8 HQ.out.kp (by rw [HRB.out]; exact Nat.le_refl _) _ _ _ _ _ _ _ _
       ·
        rw [HE.out]
        exact ⟨_,rfl,_,_,_,by unfold cdV; rw [<- HS2.out,<- HS0.out],HFIN.out.1,World.ownsRow_nil _ _ _ _,World.ownsRow_nil _ _ _ _⟩
      ·
       have hli:(s0[0].toNat:Int) = s0[0].toNat:=rfl
       have c0:=HQ.out.cr.cell 0 (.string s0)
       have c1:=HQ.out.cr.cell 1 (.slice a1 p.nodes.length k1)
       have c2:=HQ.out.cr.cell 2 (.string s2)
       have c3:=HQ.out.cr.cell 3 (.int .i64 vm)
       have c4:=HQ.out.cr.cell 4 (.int .i64 vx)
       have c5:=HQ.out.cr.cell 5 (.int .i64 0)
       have c6:=HQ.out.cr.cell 6 (.slice none 0 0)
       have c7:=HQ.out.cr.cell 7 (.slice none 0 0)
       have d0:=HQ.out.rr.cell 0 (.string ⟨#[]⟩)
       have d1:=HQ.out.rr.cell 1 (.slice none 0 0)
       have d2:=HQ.out.rr.cell 2 (.string ⟨#[]⟩)
       have d3:=HQ.out.rr.cell 3 (.int .i64 0)
       have d4:=HQ.out.rr.cell 4 (.int .i64 0)
       have d5:=HQ.out.rr.cell 5 (.int .i64 0)
       have d6:=HQ.out.rr.cell 6 (.slice none 0 0)
       have d7:=HQ.out.rr.cell 7 (.slice none 0 0)
       have zd:=HQ.out.rr.fz
       have hne:¬ rb = cb:=by have:=HQ.out.lt; omega
       have hne':¬ cb = rb:=fun e => hne e.symm
       have HFIN:=hid' (fin_own (B':=w.heap.size) (rb:=rb) (x0:=.string s0) (x1:=.slice a1 p.nodes.length k1) (x2:=.string s2) (x3:=.int .i64 vm) (x4:=.int .i64 vx) (x5:=.int .i64 0) (x6:=.slice none 0 0) (x7:=.slice none 0 0) HQ.out.rr ⟨HQ.out.on,HQ.out.ox,HQ.out.os⟩ (by have:=HQ.out.le; have:=HQ.out.lt; omega))
       go_wp2_with fail
       refine bodyPost_ret (v:=.tuple #[.agg #[.string s0,.slice a1 p.nodes.length k1,.string s2,.int .i64 vm,.int .i64 vx,.int .i64 0,.slice none 0 0,.slice none 0 0],.int .i64 0]) (by simp [results,Tryz.results7,go_sem,d0,d1,d2,d3,d4,d5,d6,d7]) rfl ⟨?_,?_⟩
       ·
        exact Kept.set8 HQ.out.kp (by rw [HRB.out]; exact Nat.le_refl _) _ _ _ _ _ _ _ _
       ·
        rw [HE.out]
        exact ⟨_,rfl,_,_,_,by unfold cdV; rw [<- HS2.out,<- HS0.out],HFIN.out.1,World.ownsRow_nil _ _ _ _,World.ownsRow_nil _ _ _ _⟩
    ·
     --%V5
     have hz0:zeroC (headC ws) = false:=by simpa using hz
     have hl1:¬ s0[0].toNat = 114:=by
      intro e; rw [HQ0.out] at e; rw [show headC ws = 114 from UInt8.toNat_inj.1 e] at hz0; exact absurd hz0 (by decide)
     have hl2:¬ s0[0].toNat = 99:=by
      intro e; rw [HQ0.out] at e; rw [show headC ws = 99 from UInt8.toNat_inj.1 e] at hz0; exact absurd hz0 (by decide)
     have hl3:¬ s0[0].toNat = 108:=by
      intro e; rw [HQ0.out] at e; rw [show headC ws = 108 from UInt8.toNat_inj.1 e] at hz0; exact absurd hz0 (by decide)
     have hl1i:¬ (s0[0].toNat:Int) = 114:=by omega
     have hl2i:¬ (s0[0].toNat:Int) = 99:=by omega
     have hl3i:¬ (s0[0].toNat:Int) = 108:=by omega
     have hl1b:((s0[0].toNat:Int) == 114) = false:=by simpa using hl1i
     have hl2b:((s0[0].toNat:Int) == 99) = false:=by simpa using hl2i
     have hl3b:((s0[0].toNat:Int) == 108) = false:=by simpa using hl3i
     have HE:=hid' (show r = .ok ⟨ws.getD 0 [],p.nodes,p.name,(vm,vx),0,[],[]⟩ by rw [HB2.out,if_neg (fun h => hz h.1)])
     have c0:=HQ.out.cr.cell 0 (.string s0)
     have c1:=HQ.out.cr.cell 1 (.slice a1 p.nodes.length k1)
     have c2:=HQ.out.cr.cell 2 (.string s2)
     have c3:=HQ.out.cr.cell 3 (.int .i64 vm)
     have c4:=HQ.out.cr.cell 4 (.int .i64 vx)
     have c5:=HQ.out.cr.cell 5 (.int .i64 0)
     have c6:=HQ.out.cr.cell 6 (.slice none 0 0)
     have c7:=HQ.out.cr.cell 7 (.slice none 0 0)
     have d0:=HQ.out.rr.cell 0 (.string ⟨#[]⟩)
     have d1:=HQ.out.rr.cell 1 (.slice none 0 0)
     have d2:=HQ.out.rr.cell 2 (.string ⟨#[]⟩)
     have d3:=HQ.out.rr.cell 3 (.int .i64 0)
     have d4:=HQ.out.rr.cell 4 (.int .i64 0)
     have d5:=HQ.out.rr.cell 5 (.int .i64 0)
     have d6:=HQ.out.rr.cell 6 (.slice none 0 0)
     have d7:=HQ.out.rr.cell 7 (.slice none 0 0)
     have zd:=HQ.out.rr.fz
     have hne:¬ rb = cb:=by have:=HQ.out.lt; omega
     have hne':¬ cb = rb:=fun e => hne e.symm
     have HFIN:=hid' (fin_own (B':=w.heap.size) (rb:=rb) (x0:=.string s0) (x1:=.slice a1 p.nodes.length k1) (x2:=.string s2) (x3:=.int .i64 vm) (x4:=.int .i64 vx) (x5:=.int .i64 0) (x6:=.slice none 0 0) (x7:=.slice none 0 0) HQ.out.rr ⟨HQ.out.on,HQ.out.ox,HQ.out.os⟩ (by have:=HQ.out.le; have:=HQ.out.lt; omega))
     go_wp2_with fail
     refine bodyPost_ret (v:=.tuple #[.agg #[.string s0,.slice a1 p.nodes.length k1,.string s2,.int .i64 vm,.int .i64 vx,.int .i64 0,.slice none 0 0,.slice none 0 0],.int .i64 0]) (by simp [results,Tryz.results7,go_sem,d0,d1,d2,d3,d4,d5,d6,d7]) rfl ⟨?_,?_⟩
     ·
      exact Kept.set8 HQ.out.kp (by rw [HRB.out]; exact Nat.le_refl _) _ _ _ _ _ _ _ _
     ·
      rw [HE.out]
      exact ⟨_,rfl,_,_,_,by unfold cdV; rw [<- HS2.out,<- HS0.out],HFIN.out.1,World.ownsRow_nil _ _ _ _,World.ownsRow_nil _ _ _ _⟩
open Q (hid' parseOf Lett ErrV Tab okN textOf)
open X (OwnS RS strs bs_list bs_size)
def rdS:Except Int Cd->Cd
 | .error _ => Cd.zero
 | .ok c => c
def rdC:Except Int Cd->Int
 | .error x => x
 | .ok _ => 0
theorem rd_form {B:Nat} {w:World} {e:Ending} {r:Except Int Cd} (h:RdIs B w e r):∃ a1 l1 a2 l2 a3 l3,e = .returned (.tuple #[cdV (rdS r) (.slice a1 (rdS r).nodes.length l1) (.slice a2 (rdS r).vals.length l2) (.slice a3 (rdS r).steps.length l3),.int .i64 (rdC r)])/\OwnS B w (.slice a1 (rdS r).nodes.length l1) (rdS r).nodes/\OwnN B w (.slice a2 (rdS r).vals.length l2) (rdS r).vals/\OwnI B w (.slice a3 (rdS r).steps.length l3) (rdS r).steps:=by
 cases r with
 | error x =>
  obtain ⟨rfl,_⟩:=h
  exact ⟨none,0,none,0,none,0,rfl,World.ownsRow_nil _ _ _ _,World.ownsRow_nil _ _ _ _,World.ownsRow_nil _ _ _ _⟩
 | ok m =>
  obtain ⟨v,rfl,nv,xv,sv,rfl,o1,o2,o3⟩:=h
  obtain ⟨a1,c1,rfl⟩:=own_shape o1
  obtain ⟨a2,c2,rfl⟩:=own_shape o2
  obtain ⟨a3,c3,rfl⟩:=own_shape o3
  exact ⟨a1,c1,a2,c2,a3,c3,rfl,o1,o2,o3⟩
theorem rd_len (ws:List (List UInt8)):(rdS (readC ws)).nodes.length<=8/\(rdS (readC ws)).vals.length<=16/\(rdS (readC ws)).steps.length<=16:=by
 cases h:readC ws with
 | error x => exact ⟨Nat.zero_le _,Nat.zero_le _,Nat.zero_le _⟩
 | ok m =>
  have hR:=(read_back h).1
  have h1:=hR.cnt
  have h2:=hR.wav
  show m.nodes.length<=8/\m.vals.length<=16/\m.steps.length<=16
  refine ⟨?_,?_,?_⟩
  ·
   unfold nodesN at h1
   split at h1
   ·
    have:=of_decide_eq_true h1; omega
   split at h1
   ·
    have:=of_decide_eq_true h1; omega
   ·
    have:=of_decide_eq_true h1; omega
  ·
   split at h2
   ·
    have:=(okW_fit h2).1; omega
   ·
    rw [h2.2.1]; simp
  ·
   split at h2
   ·
    have:=(okW_fit h2).1; omega
   ·
    rw [h2.2.2]; simp
theorem own3_apart {B H:Nat} {w w':World} {v1 v2 v3:Value} {c:Cd} (h:OwnS H w v1 c.nodes/\OwnN H w v2 c.vals/\OwnI H w v3 c.steps) (k:∀ b,H<=b->b < w.heap.size->w'.heap[b]? = w.heap[b]?) (hB:B<=H):OwnS B w' v1 c.nodes/\OwnN B w' v2 c.vals/\OwnI B w' v3 c.steps :=
 ⟨own_mono (own_kept h.1 fun b hb => k b (h.1.lt b hb).1 (h.1.lt b hb).2) hB,own_mono (own_kept h.2.1 fun b hb => k b (h.2.1.lt b hb).1 (h.2.1.lt b hb).2) hB,own_mono (own_kept h.2.2 fun b hb => k b (h.2.2.lt b hb).1 (h.2.2.lt b hb).2) hB⟩
theorem own3_kept {B:Nat} {w w':World} {v1 v2 v3:Value} {c:Cd} (h:OwnS B w v1 c.nodes/\OwnN B w v2 c.vals/\OwnI B w v3 c.steps) (k:Kept w w'):OwnS B w' v1 c.nodes/\OwnN B w' v2 c.vals/\OwnI B w' v3 c.steps:=⟨own_keptK h.1 k,own_keptK h.2.1 k,own_keptK h.2.2 k⟩
theorem own3_cdr {B:Nat} {w:World} {a1 a2 a3:Option Addr} {n1 l1 n2 l2 n3 l3:Nat} {c:Cd} (h:OwnS B w (.slice a1 n1 l1) c.nodes/\OwnN B w (.slice a2 n2 l2) c.vals/\OwnI B w (.slice a3 n3 l3) c.steps):CdR w a1 n1 l1 a2 n2 l2 a3 n3 l3 c:=⟨h.1.rs,OwnN.nsl h.2.1,OwnI.isl h.2.2⟩
structure DsI (w W wr:World) (g n H:Nat):Prop where
 be:Below w.heap.size w wr
 room:Room wr g n
 up:∀ b,H<=b->b < W.heap.size->wr.heap[b]? = W.heap[b]?
 sz:W.heap.size<=wr.heap.size
set_option maxRecDepth 100000 in
set_option maxHeartbeats 16000000 in
theorem reads7_any (ao:Option Addr) (nw cw:Nat) (ws:List (List UInt8)) (w:World) (hL:Lett w) (hE:ErrV w) (hT:Tab w) (h3:RS w (.slice ao nw cw) ws) (hnw:(nw + 256) * 16<=140737488355328) (hws:∀ x ∈ ws,x.length<=1048576) :
  Calls Tryz.prog 3 #[.slice ao nw cw] w fun e w' => Kept w w'/\e = .returned (.bool true):=by
 have HAW:=hid' (fun V (K:Kept w V) => awake7_any V (hL.kept K) (hE.kept K) (hT.kept K))
 have HLE:=hid' (fun V (K:Kept w V) => lent7_any ao nw cw ws V (h3.kept K) (by omega))
 have hln:nw = ws.length:=rs_len h3
 have HR1:=hid' (fun V (K:Kept w V) a c (hr:RS V (.slice a nw c) ws) (h1:nw<=c) (h2:c<=9223372036854775807) => readC_any a nw c ws V (hL.kept K) (hE.kept K) hr h1 h2 (fun x hx => Nat.le_trans (hws x hx) (by decide)))
 have HR2:=hid' (fun V (K:Kept w V) => rread_any ao nw cw ws V (h3.kept K) (by omega) hws)
 have HWH:=hid' (fun V (K:Kept w V) B v (hv:LentW B V v ws) => whole7_any B v ao nw cw ws V hv (h3.kept K) (by omega))
 have HML:=hid' (rd_len ws)
 have HLN:=hid' hln
 have hnw2:nw<=4611686018427387903:=by omega
 generalize hrr:readC ws = r at HR1 HR2 HML
 clear hL hE hT h3 hws hrr hln
 obtain ⟨cd,hcd⟩:∃ c,c = rdS r:=⟨_,rfl⟩
 obtain ⟨rc,hrc⟩:∃ t,t = rdC r:=⟨_,rfl⟩
 have HCD:=hid' (And.intro hcd hrc)
 rw [<- hcd] at HML
 obtain ⟨n1,hn1⟩:∃ n,n = cd.nodes.length:=⟨_,rfl⟩
 obtain ⟨n2,hn2⟩:∃ n,n = cd.vals.length:=⟨_,rfl⟩
 obtain ⟨n3,hn3⟩:∃ n,n = cd.steps.length:=⟨_,rfl⟩
 rw [<- hn1,<- hn2,<- hn3] at HML
 obtain ⟨hm1,hm2,hm3⟩:=HML.out
 obtain ⟨s1,hs1⟩:∃ s,s = X.bs cd.name:=⟨_,rfl⟩
 obtain ⟨s3,hs3⟩:∃ s,s = X.bs cd.ref:=⟨_,rfl⟩
 obtain ⟨cm,hcm⟩:∃ z,z = cd.val.1:=⟨_,rfl⟩
 obtain ⟨cx,hcx⟩:∃ z,z = cd.val.2:=⟨_,rfl⟩
 obtain ⟨ck,hck⟩:∃ z,z = cd.kind:=⟨_,rfl⟩
 have HFO:=hid' (show ∀ (B:Nat) (V:World) (e:Ending),RdIs B V e r->∃ a1 l1 a2 l2 a3 l3,e = .returned (.tuple #[.agg #[.string s1,.slice a1 n1 l1,.string s3,.int .i64 cm,.int .i64 cx,.int .i64 ck,.slice a2 n2 l2,.slice a3 n3 l3],.int .i64 rc])/\OwnS B V (.slice a1 n1 l1) cd.nodes/\OwnN B V (.slice a2 n2 l2) cd.vals/\OwnI B V (.slice a3 n3 l3) cd.steps by
  intro B V e h
  obtain ⟨a1,l1,a2,l2,a3,l3,h1,h2⟩:=rd_form h
  rw [<- hcd,<- hrc,<- hn1,<- hn2,<- hn3] at h1
  rw [<- hcd,<- hn1,<- hn2,<- hn3] at h2
  unfold cdV at h1
  rw [<- hs1,<- hs3,<- hcm,<- hcx,<- hck] at h1
  exact ⟨a1,l1,a2,l2,a3,l3,h1,h2⟩)
 have HSA:=hid' (show ∀ (a1 a2 a3 b1 b2 b3:Option Addr) (k1 k2 k3 l1 l2 l3:Nat) (V:World),CdR V a1 n1 k1 a2 n2 k2 a3 n3 k3 cd->CdR V b1 n1 l1 b2 n2 l2 b3 n3 l3 cd->Calls Tryz.prog 8 #[.agg #[.string s1,.slice a1 n1 k1,.string s3,.int .i64 cm,.int .i64 cx,.int .i64 ck,.slice a2 n2 k2,.slice a3 n3 k3],.agg #[.string s1,.slice b1 n1 l1,.string s3,.int .i64 cm,.int .i64 cx,.int .i64 ck,.slice b2 n2 l2,.slice b3 n3 l3]] V fun e w' => Kept V w'/\e = .returned (.bool true) by
  intro a1 a2 a3 b1 b2 b3 k1 k2 k3 l1 l2 l3 V h1 h2
  have:=same7_any a1 a2 a3 b1 b2 b3 n1 k1 n2 k2 n3 k3 l1 l2 l3 cd V h1 h2 (by omega) (by omega) (by omega)
  unfold cdV at this
  rw [<- hs1,<- hs3,<- hcm,<- hcx,<- hck] at this
  exact this)
 have HN1:=hid' (And.intro hn1 (And.intro hn2 hn3))
 clear hcd hrc hn1 hn2 hn3 hs1 hs3 hcm hcx hck HCD
 go_enter Tryz.func3,Tryz.ntmps3
 go_wp2_with fail
 refine (HAW.out _ (Kept.refl _)).mono ?_
 rintro e w1 ⟨hk1,rfl⟩
 have HK:=hid' hk1
 have HB1:=hid' (show w.heap.size<=w1.heap.size from hk1.size)
 clear hk1
 go_wp2_with fail
 refine (HLE.out _ HK.out).mono ?_
 rintro e w2 ⟨hk2,v,rfl,hv⟩
 have HK:=hid' (HK.out.trans hk2)
 have hrs:=hv.rs
 have HV:=hid' hv
 obtain ⟨g,cap,rfl,hgo⟩:=hv
 rw [<- HLN.out] at hrs HV ⊢
 have hgl:=own_cap' hgo
 rw [List.length_append,List.length_singleton,<- HLN.out] at hgl
 have HGO:=hid' hgo
 have hrd:=fun V (K:Kept w2 V) => HR1.out V (HK.out.trans K) _ _ (hrs.kept K) (by omega) (by omega)
 have HRD:=hid' hrd
 have hcap:nw + 1<=cap:=hgl.1
 clear hk2 hgl hgo hrs hrd
 have hrd:=HRD.out _ (Kept.refl _)
 go_wp2_with fail
 refine hrd.mono ?_
 rintro e w3 ⟨hk3,hres⟩
 obtain ⟨a1,al1,a2,al2,a3,al3,rfl,o1⟩:=HFO.out _ _ _ hres
 have HA:=hid' o1
 have HK3:=hid' hk3
 clear hk3 hrd hres o1
 go_wp2_with fail
 --%A
 have kC:=(Kept.refl w3).alloc (.cells #[.string s1,.slice a1 n1 al1,.string s3,.int .i64 cm,.int .i64 cx,.int .i64 ck,.slice a2 n2 al2,.slice a3 n3 al3] 32)
 have hC:=RowL.alloc 32 w3 [.string s1,.slice a1 n1 al1,.string s3,.int .i64 cm,.int .i64 cx,.int .i64 ck,.slice a2 n2 al2,.slice a3 n3 al3]
 have HK4:=hid' (HK3.out.trans kC)
 have HA4:=hid' (own3_kept HA.out kC)
 have HS3:=hid' (show w3.heap.size<=w3.heap.size + 1 from Nat.le_succ _)
 have hz4:(w3.alloc (.cells #[.string s1,.slice a1 n1 al1,.string s3,.int .i64 cm,.int .i64 cx,.int .i64 ck,.slice a2 n2 al2,.slice a3 n3 al3] 32)).heap.size = w3.heap.size + 1:=by simp
 generalize w3.alloc (.cells #[.string s1,.slice a1 n1 al1,.string s3,.int .i64 cm,.int .i64 cx,.int .i64 ck,.slice a2 n2 al2,.slice a3 n3 al3] 32) = W4 at HK4 HA4 hC hz4 ⊢
 obtain ⟨pc,hpc⟩:∃ q,q = w3.heap.size:=⟨_,rfl⟩
 rw [<- hpc] at hC ⊢
 have HC:=hid' hC
 have HPC:=hid' (And.intro hpc hz4)
 clear hpc kC hC hz4
 refine (HRD.out _ HK4.out).mono ?_
 rintro e w5 ⟨hk5,hres⟩
 obtain ⟨b1,bl1,b2,bl2,b3,bl3,rfl,o1⟩:=HFO.out _ _ _ hres
 have HBo:=hid' o1
 have HK5:=hid' (HK4.out.trans hk5)
 have HC:=hid' (HC.out.kept hk5)
 have HA5:=hid' (own3_kept HA4.out hk5)
 have HZ5:=hid' hk5.size
 clear hk5 hres o1
 go_wp2_with fail
 --%B
 have kD:=(Kept.refl w5).alloc (.cells #[.string s1,.slice b1 n1 bl1,.string s3,.int .i64 cm,.int .i64 cx,.int .i64 ck,.slice b2 n2 bl2,.slice b3 n3 bl3] 32)
 have hD:=RowL.alloc 32 w5 [.string s1,.slice b1 n1 bl1,.string s3,.int .i64 cm,.int .i64 cx,.int .i64 ck,.slice b2 n2 bl2,.slice b3 n3 bl3]
 have HK6:=hid' (HK5.out.trans kD)
 have HA6:=hid' (own3_kept HA5.out kD)
 have HB6:=hid' (own3_kept HBo.out kD)
 have HC:=hid' (HC.out.kept kD)
 have HZ6:=hid' (Nat.le_trans HZ5.out kD.size)
 generalize w5.alloc (.cells #[.string s1,.slice b1 n1 bl1,.string s3,.int .i64 cm,.int .i64 cx,.int .i64 ck,.slice b2 n2 bl2,.slice b3 n3 bl3] 32) = W6 at HK6 HA6 HB6 HC HZ6 hD ⊢
 obtain ⟨pd,hpd⟩:∃ q,q = w5.heap.size:=⟨_,rfl⟩
 rw [<- hpd] at hD ⊢
 have HD:=hid' hD
 have HPD:=hid' hpd
 clear hpd kD hD
 refine (HR2.out _ (HK.out.trans HK6.out)).mono ?_
 rintro e w7 ⟨hk7,hres⟩
 obtain ⟨c1,cl1,c2,cl2,c3,cl3,rfl,o1⟩:=HFO.out _ _ _ hres
 have HCo:=hid' o1
 have HK7:=hid' (HK6.out.trans hk7)
 have HC:=hid' (HC.out.kept hk7)
 have HD:=hid' (HD.out.kept hk7)
 have HA7:=hid' (own3_kept HA6.out hk7)
 have HB7:=hid' (own3_kept HB6.out hk7)
 have HZ7:=hid' (Nat.le_trans HZ6.out hk7.size)
 clear hk7 hres o1
 have kW:=(Kept.refl w7).alloc (.cells #[.string s1,.slice c1 n1 cl1,.string s3,.int .i64 cm,.int .i64 cx,.int .i64 ck,.slice c2 n2 cl2,.slice c3 n3 cl3] 32)
 have hW:=RowL.alloc 32 w7 [.string s1,.slice c1 n1 cl1,.string s3,.int .i64 cm,.int .i64 cx,.int .i64 ck,.slice c2 n2 cl2,.slice c3 n3 cl3]
 have f0:=(HC.out.kept kW).cell 0 (.string s1)
 have f1:=(HC.out.kept kW).cell 1 (.slice a1 n1 al1)
 have f2:=(HC.out.kept kW).cell 2 (.string s3)
 have f3:=(HC.out.kept kW).cell 3 (.int .i64 cm)
 have f4:=(HC.out.kept kW).cell 4 (.int .i64 cx)
 have f5:=(HC.out.kept kW).cell 5 (.int .i64 ck)
 have f6:=(HC.out.kept kW).cell 6 (.slice a2 n2 al2)
 have f7:=(HC.out.kept kW).cell 7 (.slice a3 n3 al3)
 have g0:=hW.cell 0 (.string s1)
 have g1:=hW.cell 1 (.slice c1 n1 cl1)
 have g2:=hW.cell 2 (.string s3)
 have g3:=hW.cell 3 (.int .i64 cm)
 have g4:=hW.cell 4 (.int .i64 cx)
 have g5:=hW.cell 5 (.int .i64 ck)
 have g6:=hW.cell 6 (.slice c2 n2 cl2)
 have g7:=hW.cell 7 (.slice c3 n3 cl3)
 go_wp2_with fail
 --%C
 have HK8:=hid' (HK7.out.trans kW)
 have HA8:=hid' (own3_kept HA7.out kW)
 have HB8:=hid' (own3_kept HB7.out kW)
 have HC8:=hid' (own3_kept HCo.out kW)
 have HC:=hid' (HC.out.kept kW)
 have HD:=hid' (HD.out.kept kW)
 have HZ8:=hid' (Nat.le_trans HZ7.out kW.size)
 generalize w7.alloc (.cells #[.string s1,.slice c1 n1 cl1,.string s3,.int .i64 cm,.int .i64 cx,.int .i64 ck,.slice c2 n2 cl2,.slice c3 n3 cl3] 32) = W8 at HK8 HA8 HB8 HC8 HC HD HZ8 hW ⊢
 obtain ⟨pw,hpw⟩:∃ q,q = w7.heap.size:=⟨_,rfl⟩
 rw [<- hpw] at hW ⊢
 have HW:=hid' hW
 have HPW:=hid' hpw
 clear f0 f1 f2 f3 f4 f5 f6 f7 g0 g1 g2 g3 g4 g5 g6 g7
 clear hpw kW hW
 refine (HSA.out _ _ _ _ _ _ _ _ _ _ _ _ _ (own3_cdr HA8.out) (own3_cdr HC8.out)).mono ?_
 rintro e w9 ⟨hk9,rfl⟩
 have HK9:=hid' (HK8.out.trans hk9)
 have HA9:=hid' (own3_kept HA8.out hk9)
 have HB9:=hid' (own3_kept HB8.out hk9)
 have HC9:=hid' (own3_kept HC8.out hk9)
 have HC:=hid' (HC.out.kept hk9)
 have HD:=hid' (HD.out.kept hk9)
 have HW:=hid' (HW.out.kept hk9)
 have HZ9:=hid' (Nat.le_trans HZ8.out hk9.size)
 have hwh:=HWH.out _ (HK.out.trans HK9.out) _ _ (HV.out.kept HK9.out)
 clear hk9
 go_wp2_with fail
 refine hwh.mono ?_
 rintro e wa ⟨hka,rfl⟩
 have HKa:=hid' (HK9.out.trans hka)
 have HAa:=hid' (own3_kept HA9.out hka)
 have HBa:=hid' (own3_kept HB9.out hka)
 have HCa:=hid' (own3_kept HC9.out hka)
 have HC:=hid' (HC.out.kept hka)
 have HD:=hid' (HD.out.kept hka)
 have HW:=hid' (HW.out.kept hka)
 have HZa:=hid' (Nat.le_trans HZ9.out hka.size)
 clear hka hwh
 have f0:=HC.out.cell 0 (.string s1)
 have f1:=HC.out.cell 1 (.slice a1 n1 al1)
 have f2:=HC.out.cell 2 (.string s3)
 have f3:=HC.out.cell 3 (.int .i64 cm)
 have f4:=HC.out.cell 4 (.int .i64 cx)
 have f5:=HC.out.cell 5 (.int .i64 ck)
 have f6:=HC.out.cell 6 (.slice a2 n2 al2)
 have f7:=HC.out.cell 7 (.slice a3 n3 al3)
 go_wp2_with fail
 --%D
 have hsp:=spoil7_any w2.heap.size w3.heap.size s1 s3 cm cx ck a1 a2 a3 n1 al1 n2 al2 n3 al3 wa HKa.out.size (by have h1:=HZa.out; have h2:=HPC.out.2; omega)
  (by have h:=own_mine (H:=w3.heap.size) HAa.out.1 (fun b hb => (HA.out.1.lt b hb).2); rw [Nat.mul_one,<- HN1.out.1] at h; exact h)
  (by have h:=own_mine (H:=w3.heap.size) HAa.out.2.1 (fun b hb => (HA.out.2.1.lt b hb).2); rw [<- HN1.out.2.1] at h; exact h)
  (by have h:=own_mine (H:=w3.heap.size) HAa.out.2.2 (fun b hb => (HA.out.2.2.lt b hb).2); rw [Nat.mul_one,<- HN1.out.2.2] at h; exact h) (by omega) (by omega) (by omega)
 clear f0 f1 f2 f3 f4 f5 f6 f7
 refine hsp.mono ?_
 rintro e wb ⟨rfl,hbe,hup⟩
 have hw3:w3.heap.size<=W4.heap.size:=by have:=HPC.out.2; omega
 have HBb:=hid' (own3_apart (B:=W4.heap.size) HBa.out (fun b hb hl => hup b (Nat.le_trans hw3 hb) hl) (Nat.le_refl _))
 have HCb:=hid' (own3_apart (B:=W6.heap.size) HCa.out (fun b hb hl => hup b (by have h1:=HZ6.out; omega) hl) (Nat.le_refl _))
 have HD:=hid' (HD.out.block (hup pd (by have h1:=HPD.out; have h2:=HZ5.out; omega) HD.out.lt))
 have HW:=hid' (HW.out.block (hup pw (by have h1:=HPW.out; have h2:=HZ7.out; omega) HW.out.lt))
 have hbg:g < w2.heap.size:=by
  obtain ⟨g',c',e,_,h4,_⟩:=HGO.out.read (by simp)
  simp only [Value.slice.injEq,Option.some.injEq,Addr.mk.injEq] at e
  rw [e.1.1]
  exact h4
 have hgB:w1.heap.size<=g:=(HGO.out.lt g rfl).1
 have hRm:Room w2 g nw:=by
  obtain ⟨g',c',e,_,h4,_,h5,h6⟩:=own_cell HGO.out (by simp)
  simp only [Value.slice.injEq,Option.some.injEq,Addr.mk.injEq] at e
  obtain ⟨⟨rfl,_⟩,_,rfl⟩:=e
  intro j hj
  refine ⟨⟨_,h5 j _ (List.getElem?_eq_getElem (by rw [X.strs_len,List.length_append,<- HLN.out]; omega))⟩,h6 j⟩
 have HI:Hid (DsI w wb wb g nw w2.heap.size):=⟨Below.trans (HK.out.trans HKa.out) (Below.mono hbe (Nat.le_trans HB1.out (by omega))),hRm.block ((hbe.block g hbg).trans (HKa.out.block g hbg)),fun _ _ _ => rfl,Nat.le_refl _⟩
 have HBG:=hid' (And.intro hbg (And.intro hgB hbe.size))
 clear hsp hbe hup hw3 hRm hbg hgB
 go_wp2_with fail
 --%E
 go_loopw [54] (fun vi wr => ∃ (i:Nat),i<=nw/\vi = .int .i64 (i:Int)/\Hid (DsI w wb wr g nw w2.heap.size)) (fun vi _ => nw - (intOf vi).toNat)
 case atStart => exact ⟨0,Nat.zero_le _,rfl,HI.out⟩
 case round =>
  obtain ⟨i,hi,rfl,HS⟩:=hrel
  clear HI
  by_cases hit:i < nw
  ·
   have hii:(i:Int) < (nw:Int):=by omega
   have hi0:(0:Int)<=(i:Int):=by omega
   obtain ⟨⟨u,hu⟩,hf⟩:=HS.out.room i hit
   have HN:Hid (DsI w wb (wr.setCell ⟨g,i,none⟩ (.string ⟨#[45]⟩)) g nw w2.heap.size):=⟨HS.out.be.setCell (p:=⟨g,i,none⟩) (Nat.le_trans HB1.out HBG.out.2.1) _,HS.out.room.set,fun b hb hl => (Deep.blk_setCell_other _ ⟨g,i,none⟩ _ b (by show b ≠ g; have:=HBG.out.1; omega)).trans (HS.out.up b hb hl),by rw [World.size_setCell]; exact HS.out.sz⟩
   go_wp2_with fail
   go_roundw
   case rel => exact ⟨i + 1,by omega,by go_num,HN.out⟩
   case measure => show nw - ((i:Int) + 1).toNat < nw - (i:Int).toNat; omega
  ·
   --%F
   have hii:¬ (i:Int) < (nw:Int):=by omega
   have h24:w2.heap.size<=W4.heap.size:=HK4.out.size
   have HBz:=hid' (own3_apart (B:=W4.heap.size) HBb.out (fun b hb hl => HS.out.up b (Nat.le_trans h24 hb) hl) (Nat.le_refl _))
   have HCz:=hid' (own3_apart (B:=W6.heap.size) HCb.out (fun b hb hl => HS.out.up b (Nat.le_trans HK6.out.size hb) hl) (Nat.le_refl _))
   have hDz:=HD.out.block (HS.out.up pd (by have h1:=HPD.out; have h2:=HK5.out.size; omega) HD.out.lt)
   have hWz:=HW.out.block (HS.out.up pw (by have h1:=HPW.out; have h2:=HK7.out.size; omega) HW.out.lt)
   have f0:=hDz.cell 0 (.string s1)
   have f1:=hDz.cell 1 (.slice b1 n1 bl1)
   have f2:=hDz.cell 2 (.string s3)
   have f3:=hDz.cell 3 (.int .i64 cm)
   have f4:=hDz.cell 4 (.int .i64 cx)
   have f5:=hDz.cell 5 (.int .i64 ck)
   have f6:=hDz.cell 6 (.slice b2 n2 bl2)
   have f7:=hDz.cell 7 (.slice b3 n3 bl3)
   have g0:=hWz.cell 0 (.string s1)
   have g1:=hWz.cell 1 (.slice c1 n1 cl1)
   have g2:=hWz.cell 2 (.string s3)
   have g3:=hWz.cell 3 (.int .i64 cm)
   have g4:=hWz.cell 4 (.int .i64 cx)
   have g5:=hWz.cell 5 (.int .i64 ck)
   have g6:=hWz.cell 6 (.slice c2 n2 cl2)
   have g7:=hWz.cell 7 (.slice c3 n3 cl3)
   clear hDz hWz
   have hsm:=HSA.out _ _ _ _ _ _ _ _ _ _ _ _ wr (own3_cdr HBz.out) (own3_cdr HCz.out)
   go_wp2_with fail
   refine hsm.mono ?_
   rintro e wz ⟨hkz,rfl⟩
   have HKz:=hid' (Below.trans HS.out.be (Below.mono hkz (HS.out.be.size)))
   clear f0 f1 f2 f3 f4 f5 f6 f7 g0 g1 g2 g3 g4 g5 g6 g7
   clear hkz hsm
   go_wp2_with fail
   go_ret
   exact ⟨HKz.out,rfl⟩
end V
end Go.Proofs.YtihnknnddldgiaaGreatDoor

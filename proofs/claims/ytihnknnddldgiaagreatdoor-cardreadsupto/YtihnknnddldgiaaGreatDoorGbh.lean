/- Lemmas. -/
import Derived.Test.YtihnknnddldgiaaGreatDoorGbg
import Derived.Test.YtihnknnddldgiaaGreatDoorGax
import Derived.Test.YtihnknnddldgiaaGreatDoorGbf
namespace Go.Proofs.YtihnknnddldgiaaGreatDoor
open Go.RowKit
namespace V
open Q (hid' parseOf Lett ErrV)
open X (bs OwnS RS strs bs_list bs_size)
def cdV (c:Cd) (nv xv sv:Value):Value:=.agg #[.string (bs c.name),nv,.string (bs c.ref),.int .i64 c.val.1,.int .i64 c.val.2,.int .i64 c.kind,xv,sv]
def CdNew (B:Nat) (w:World) (v:Value) (c:Cd):Prop:=∃ nv xv sv,v = cdV c nv xv sv/\OwnS B w nv c.nodes/\OwnN B w xv c.vals/\OwnI B w sv c.steps
def zeroCd:Value:=.agg #[.string ⟨#[]⟩,.slice none 0 0,.string ⟨#[]⟩,.int .i64 0,.int .i64 0,.int .i64 0,.slice none 0 0,.slice none 0 0]
def readB (ws:List (List UInt8)):Except Int Pt->Except Int Cd
 | .error e => .error e
 | .ok p => endC (cardS ws p)
theorem readC_dev {ws:List (List UInt8)} (hh:0 < (ws.getD 0 []).length) (hdv:devB (ws.getD 0 []) = true):readC ws = readB ws (partsOf ws (cshape (headC ws) ws)):=by
 unfold readC
 rw [if_neg (by
  rintro (e | e)
  ·
   rw [e] at hh; exact absurd hh (by decide)
  ·
   rw [hdv] at e; cases e)]
 cases partsOf ws (cshape (headC ws) ws) <;> rfl
theorem cshape_wave {c:UInt8} (ws:List (List UInt8)) (h:waveC c = true):4<=(cshape c ws).length:=by
 have h1:=of_decide_eq_true h
 have:=(wshape_len (ws.drop 3)).1
 unfold cshape
 rw [if_pos (by simpa using h1),List.length_append]
 simp only [List.length_cons,List.length_nil]
 omega
theorem cshape_value {c:UInt8} (ws:List (List UInt8)) (h:valueC c = true):0 < (cshape c ws).count 120:=by
 have h1:=of_decide_eq_true h
 simp only [List.mem_cons,List.not_mem_nil,or_false] at h1
 rcases h1 with rfl | rfl | rfl | rfl | rfl | rfl | rfl | rfl <;> simp [cshape]
theorem card_form {ws:List (List UInt8)} {p:Pt} {B:Nat} {w:World} {nv:Value} {a2 a3:Option Addr} {k2 k3:Nat} (h2:OwnN B w (.slice a2 p.nums.length k2) p.nums) (h3:OwnI B w (.slice a3 p.steps.length k3) p.steps) :
  ∃ a2' k2' a3' k3',cardV ws p nv (.slice a2 p.nums.length k2) (.slice a3 p.steps.length k3) = .agg #[.string (bs (cardS ws p).name),nv,.string (bs (cardS ws p).ref),.int .i64 (cardS ws p).val.1,.int .i64 (cardS ws p).val.2,.int .i64 (cardS ws p).kind,.slice a2' (cardS ws p).vals.length k2',.slice a3' (cardS ws p).steps.length k3'] /\
   True/\OwnN B w (.slice a2' (cardS ws p).vals.length k2') (cardS ws p).vals/\OwnI B w (.slice a3' (cardS ws p).steps.length k3') (cardS ws p).steps/\(cardS ws p).nodes = p.nodes/\(cardS ws p).name = ws.getD 0 []:=by
 by_cases hw:waveC (headC ws) = true
 ·
  have e:cardS ws p = ⟨ws.getD 0 [],p.nodes,p.name,(0,0),wkindL (ws.getD 3 []),p.nums,p.steps⟩:=if_pos hw
  rw [e]
  exact ⟨a2,k2,a3,k3,by unfold cardV; rw [if_pos hw],trivial,h2,h3,rfl,rfl⟩
 ·
  by_cases hv:valueC (headC ws) = true
  ·
   have e:cardS ws p = ⟨ws.getD 0 [],p.nodes,p.name,p.nums.getD 0 (0,0),0,[],[]⟩:=(if_neg hw).trans (if_pos hv)
   rw [e]
   exact ⟨none,0,none,0,by unfold cardV; rw [if_neg hw,if_pos hv]; rfl,trivial,World.ownsRow_nil _ _ _ _,World.ownsRow_nil _ _ _ _,rfl,rfl⟩
  ·
   have e:cardS ws p = ⟨ws.getD 0 [],p.nodes,p.name,(0,0),0,[],[]⟩:=(if_neg hw).trans (if_neg hv)
   rw [e]
   exact ⟨none,0,none,0,by unfold cardV; rw [if_neg hw,if_neg hv]; rfl,trivial,World.ownsRow_nil _ _ _ _,World.ownsRow_nil _ _ _ _,rfl,rfl⟩
theorem wave_not_zero (c:UInt8) (h:zeroC c = true):waveC c = false:=by
 have h1:=of_decide_eq_true h
 simp only [List.mem_cons,List.not_mem_nil,or_false] at h1
 rcases h1 with rfl | rfl | rfl <;> decide
theorem fin_own {B B':Nat} {w:World} {rb:Nat} {ys:List Value} {nv xv sv x0 x1 x2 x3 x4 x5 x6 x7:Value} {ns:List (List UInt8)} {vs:List (Int × Int)} {ss:List Int} (hz:RowL 32 w rb ys) (h:OwnS B w nv ns/\OwnN B w xv vs/\OwnI B w sv ss) (hB:B'<=B) :
  OwnS B' ((((((((w.setCell ⟨rb,0,none⟩ x0).setCell ⟨rb,1,none⟩ x1).setCell ⟨rb,2,none⟩ x2).setCell ⟨rb,3,none⟩ x3).setCell ⟨rb,4,none⟩ x4).setCell ⟨rb,5,none⟩ x5).setCell ⟨rb,6,none⟩ x6).setCell ⟨rb,7,none⟩ x7) nv ns /\
  OwnN B' ((((((((w.setCell ⟨rb,0,none⟩ x0).setCell ⟨rb,1,none⟩ x1).setCell ⟨rb,2,none⟩ x2).setCell ⟨rb,3,none⟩ x3).setCell ⟨rb,4,none⟩ x4).setCell ⟨rb,5,none⟩ x5).setCell ⟨rb,6,none⟩ x6).setCell ⟨rb,7,none⟩ x7) xv vs /\
  OwnI B' ((((((((w.setCell ⟨rb,0,none⟩ x0).setCell ⟨rb,1,none⟩ x1).setCell ⟨rb,2,none⟩ x2).setCell ⟨rb,3,none⟩ x3).setCell ⟨rb,4,none⟩ x4).setCell ⟨rb,5,none⟩ x5).setCell ⟨rb,6,none⟩ x6).setCell ⟨rb,7,none⟩ x7) sv ss:=by
 have o:∀ b,b ≠ rb->((((((((w.setCell ⟨rb,0,none⟩ x0).setCell ⟨rb,1,none⟩ x1).setCell ⟨rb,2,none⟩ x2).setCell ⟨rb,3,none⟩ x3).setCell ⟨rb,4,none⟩ x4).setCell ⟨rb,5,none⟩ x5).setCell ⟨rb,6,none⟩ x6).setCell ⟨rb,7,none⟩ x7).heap[b]? = w.heap[b]?:=fun b hb => by
  have k:=fun (V:World) (i:Nat) (u:Value) => Deep.blk_setCell_other V ⟨rb,i,none⟩ u b hb
  rw [k,k,k,k,k,k,k,k]
 refine ⟨own_mono (own_kept h.1 fun b hb => o b ?_) hB,own_mono (own_kept h.2.1 fun b hb => o b ?_) hB,own_mono (own_kept h.2.2 fun b hb => o b ?_) hB⟩
 ·
  intro e; subst e; exact own_row h.1 hz (by decide) hb
 ·
  intro e; subst e; exact own_row h.2.1 hz (by decide) hb
 ·
  intro e; subst e; exact own_row h.2.2 hz (by decide) hb
def RdIs (B:Nat) (w:World) (e:Ending):Except Int Cd->Prop
 | .error x => e = .returned (.tuple #[zeroCd,.int .i64 x])/\x ≠ 0
 | .ok c => ∃ v,e = .returned (.tuple #[v,.int .i64 0])/\CdNew B w v c
set_option maxRecDepth 100000 in
set_option maxHeartbeats 40000000 in
theorem readC_any (ao:Option Addr) (n c:Nat) (ws:List (List UInt8)) (w:World) (hL:Lett w) (hE:ErrV w) (h:RS w (.slice ao n c) ws) (hc2:n<=c) (hn2:c<=9223372036854775807) (hs:∀ x ∈ ws,x.length<=9223372036854775807) :
  Calls Tryz.prog 6 #[.slice ao n c] w fun e w' => Kept w w'/\RdIs w.heap.size w' e (readC ws):=by
 have hn:n = ws.length:=by obtain ⟨_,_,e,_⟩:=h; simp at e; exact e.2.1
 have HS:=hid' (And.intro h (And.intro hn (And.intro hs (And.intro hL hE))))
 obtain ⟨r,hr⟩:∃ r,r = readC ws:=⟨_,rfl⟩
 rw [<- hr]
 have HR:=hid' hr
 clear h hs hL hE hr
 by_cases h0:n = 0
 ·
  subst h0
  have HE:=hid' (show r = .error 70 by rw [HR.out]; unfold readC; rw [if_pos (.inl (List.eq_nil_of_length_eq_zero hn.symm))])
  clear hn
  go_enter Tryz.func6,Tryz.ntmps6
  go_wp2_with fail
  refine bodyPost_ret (v:=.tuple #[.agg #[.string ⟨#[]⟩,.slice none 0 0,.string ⟨#[]⟩,.int .i64 0,.int .i64 0,.int .i64 0,.slice none 0 0,.slice none 0 0],.int .i64 70]) (by simp [results,Tryz.results6,go_sem]) rfl ⟨?_,?_⟩
  ·
   exact (Kept.refl w).alloc _
  ·
   rw [HE.out]
   exact ⟨rfl,by decide⟩
 have hn0:0 < n:=by omega
 have hnp:(0:Int) < (n:Int):=by omega
 have hnz:¬ (n:Int) = 0:=by omega
 have hnz':((n:Int) == 0) = false:=by simpa using hnz
 obtain ⟨b,off,rfl,ck⟩:∃ b off,ao = some ⟨b,off,none⟩/\Hid (b < w.heap.size/\∀ j,j < n->w.cell? ⟨b,off + j,none⟩ = some (.string (bs (ws.getD j [])))):=by
  obtain ⟨ao',c',hv,hx⟩:=HS.out.1
  simp only [Value.slice.injEq] at hv
  obtain ⟨rfl,hn,rfl⟩:=hv
  obtain ⟨b,off,e,h1,h2⟩:=hx (by omega)
  exact ⟨b,off,e,h1,fun j hj => h2 j (by omega)⟩
 have hs0:(bs (ws.getD 0 [])).size<=9223372036854775807:=by
  rw [bs_size]
  refine HS.out.2.2.1 _ ?_
  rw [List.getD_eq_getElem?_getD,List.getElem?_eq_getElem (by omega)]
  exact List.getElem_mem _
 have hdev:=fun V => cdev_any (bs (ws.getD 0 [])) V hs0
 rw [bs_list] at hdev
 have c0:=ck.out.2 0 (by omega)
 rw [Nat.add_zero] at c0
 obtain ⟨s0,hs0e⟩:∃ s,s = bs (ws.getD 0 []):=⟨_,rfl⟩
 rw [<- hs0e] at c0 hdev
 have HS0:=hid' hs0e
 have HBL:=hid' ck.out.1
 have KZ:=(Kept.refl w).alloc (.cells #[.string ⟨#[]⟩,.slice none 0 0,.string ⟨#[]⟩,.int .i64 0,.int .i64 0,.int .i64 0,.slice none 0 0,.slice none 0 0] 32)
 have c0':=(Below.cell KZ (p:=⟨b,off,none⟩) HBL.out).trans c0
 have HLN:=hid' hn
 clear hs0 hs0e hn
 cases hdv:devB (ws.getD 0 [])
 ·
  have HE:=hid' (show r = .error 70 by rw [HR.out]; unfold readC; rw [if_pos (.inr hdv)])
  rw [hdv] at hdev
  go_enter Tryz.func6,Tryz.ntmps6
  go_wp2_with fail
  refine (hdev _).mono ?_
  rintro e w1 ⟨rfl,rfl⟩
  go_wp2_with fail
  refine bodyPost_ret (v:=.tuple #[.agg #[.string ⟨#[]⟩,.slice none 0 0,.string ⟨#[]⟩,.int .i64 0,.int .i64 0,.int .i64 0,.slice none 0 0,.slice none 0 0],.int .i64 70]) (by simp [results,Tryz.results6,go_sem]) rfl ⟨?_,?_⟩
  ·
   exact (Kept.refl w).alloc _
  ·
   rw [HE.out]
   exact ⟨rfl,by decide⟩
 ·
  rw [hdv] at hdev
  have hh:0 < (ws.getD 0 []).length:=by
   have h1:=dev_pos (s:=bs (ws.getD 0 [])) (by rw [bs_list]; exact hdv)
   rwa [bs_size] at h1
  go_enter Tryz.func6,Tryz.ntmps6
  go_wp2_with fail
  refine (hdev _).mono ?_
  rintro e w1 ⟨rfl,rfl⟩
  go_wp2_with fail
  have hZr:=RowL.alloc 32 w [.string ⟨#[]⟩,.slice none 0 0,.string ⟨#[]⟩,.int .i64 0,.int .i64 0,.int .i64 0,.slice none 0 0,.slice none 0 0]
  generalize w.alloc (.cells #[.string ⟨#[]⟩,.slice none 0 0,.string ⟨#[]⟩,.int .i64 0,.int .i64 0,.int .i64 0,.slice none 0 0,.slice none 0 0] 32) = W0 at KZ hZr c0' ⊢
  refine (cardShape_any _ _ _ ws _ (HS.out.1.kept KZ) hn0 hc2 hn2 hh).mono ?_
  rintro e w2 ⟨hk2,rfl⟩
  obtain ⟨rb,hrb⟩:∃ q,q = w.heap.size:=⟨_,rfl⟩
  rw [<- hrb] at hZr ⊢
  have HRB:=hid' hrb
  have HZ:=hid' (hZr.kept hk2)
  have HK:=hid' (KZ.trans hk2)
  have hcl:=cshape_len (headC ws) ws
  rw [<- bs_size] at hcl
  have hrp:=readParts_any (some ⟨b,off,none⟩) n c ws (bs (cshape (headC ws) ws)) w2 (HS.out.2.2.2.1.kept HK.out) (HS.out.2.2.2.2.kept HK.out) (HS.out.1.kept HK.out) (by omega) HS.out.2.2.1
  rw [bs_list] at hrp
  generalize bs (cshape (headC ws) ws) = sh at hrp ⊢
  obtain ⟨o,ho⟩:∃ o,o = partsOf ws (cshape (headC ws) ws):=⟨_,rfl⟩
  rw [<- ho] at hrp
  have HR2:=hid' (show r = readB ws o by rw [HR.out,readC_dev hh hdv,ho])
  have HO:=hid' ho
  have HH:=hid' (And.intro hh hdv)
  clear hZr KZ hk2 hrb hcl c0 c0' ho hdev hh hdv
  go_wp2_with fail
  refine hrp.mono ?_
  rintro e w3 ⟨hk3,hpa⟩
  clear hrp
  have HZ:=hid' (HZ.out.kept hk3)
  have HK3:=hid' (HK.out.trans hk3)
  have HLE:=hid' HK.out.size
  cases o with
  | error x =>
   obtain ⟨rfl,hx0⟩:=hpa
   have hx0':(x == 0) = false:=by simpa using hx0
   have hZ3:=HZ.out.kept ((Kept.refl w3).alloc (.cells #[.slice none 0 0,.string ⟨#[]⟩,.slice none 0 0,.slice none 0 0] 50))
   have d0:=hZ3.cell 0 (.string ⟨#[]⟩)
   have d1:=hZ3.cell 1 (.slice none 0 0)
   have d2:=hZ3.cell 2 (.string ⟨#[]⟩)
   have d3:=hZ3.cell 3 (.int .i64 0)
   have d4:=hZ3.cell 4 (.int .i64 0)
   have d5:=hZ3.cell 5 (.int .i64 0)
   have d6:=hZ3.cell 6 (.slice none 0 0)
   have d7:=hZ3.cell 7 (.slice none 0 0)
   have zd:=hZ3.fz
   clear hZ3
   go_wp2_with fail
   refine bodyPost_ret (v:=.tuple #[.agg #[.string ⟨#[]⟩,.slice none 0 0,.string ⟨#[]⟩,.int .i64 0,.int .i64 0,.int .i64 0,.slice none 0 0,.slice none 0 0],.int .i64 x]) (by simp [results,Tryz.results6,go_sem,d0,d1,d2,d3,d4,d5,d6,d7]) rfl ⟨?_,?_⟩
   ·
    exact Kept.set8 (HK3.out.alloc _) (Nat.le_of_eq HRB.out.symm) _ _ _ _ _ _ _ _
   ·
    rw [HR2.out]
    exact ⟨rfl,hx0⟩
  | ok p =>
   obtain ⟨nv,xv,sv,rfl,o1,o2,o3⟩:=hpa
   obtain ⟨a1,k1,rfl⟩:=own_shape o1
   obtain ⟨a2,k2,rfl⟩:=own_shape o2
   obtain ⟨a3,k3,rfl⟩:=own_shape o3
   have HOW:=hid' (And.intro o1 (And.intro o2 o3))
   clear o1 o2 o3
   have hpo:=partsOf_ok HO.out.symm
   have hkA:=(Kept.refl w3).alloc (.cells #[.slice a1 p.nodes.length k1,.string (bs p.name),.slice a2 p.nums.length k2,.slice a3 p.steps.length k3] 50)
   have hco:=cardOf_any (some ⟨b,off,none⟩) n c ws p a1 a2 a3 p.nodes.length k1 p.nums.length k2 p.steps.length k3 _ (HS.out.1.kept (HK3.out.trans hkA)) hn0 HH.out.1 (fun hw => by have:=cshape_wave ws hw; have:=HLN.out; omega) (fun hv => by have:=cshape_value ws hv; omega) ((OwnN.nsl HOW.out.2.1).kept hkA)
   obtain ⟨a2',k2',a3',k3',hcv,hcn,own2,own3,hnn,hnm⟩:=card_form (ws:=ws) (p:=p) (nv:=.slice a1 p.nodes.length k1) HOW.out.2.1 HOW.out.2.2
   rw [hcv] at hco
   obtain ⟨cd,hcd⟩:∃ cd,cd = cardS ws p:=⟨_,rfl⟩
   rw [<- hcd] at hco own2 own3 hnn hnm
   rw [hnm] at hco
   rw [<- hnn] at HOW
   have HR3:=hid' (show r = endC cd by rw [HR2.out,hcd]; rfl)
   have HOW2:=hid' (And.intro HOW.out.1 (And.intro own2 own3))
   have HNM:=hid' hnm
   obtain ⟨cn,cnd,cr,cv,ckd,cvs,css⟩:=cd
   obtain ⟨cm,cx⟩:=cv
   simp only at hco HR3 HOW2 HNM hnn
   rw [<- HS0.out] at hco
   obtain ⟨s1,hs1⟩:∃ s,s = bs cr:=⟨_,rfl⟩
   rw [<- hs1] at hco
   have HS1:=hid' hs1
   have hh0:0 < s0.size:=by rw [HS0.out,bs_size]; exact HH.out.1
   have hh0':(0:Int) < (s0.size:Int):=by omega
   have HQ:=hid' (show s0[0] = cn.getD 0 0 by rw [HNM.out]; exact head_of hh0 HS0.out)
   have HPL:=hid' hnn
   rw [<- hnn] at hco hkA ⊢
   obtain ⟨ln,hln⟩:∃ l,l = cnd.length:=⟨_,rfl⟩
   rw [<- hln] at hco HOW2 hkA ⊢
   have HLL:=hid' hln
   have HKA:=hid' hkA
   clear hkA
   clear hpo hcv hcn hnn hnm own2 own3 hcd hs1 hln
   go_wp2_with fail
   refine hco.mono ?_
   rintro e w4 ⟨hk4,rfl⟩
   go_wp2_with fail
   have hkC:=(HKA.out.trans hk4).alloc (.cells #[.string s0,.slice a1 ln k1,.string s1,.int .i64 cm,.int .i64 cx,.int .i64 ckd,.slice a2' cvs.length k2',.slice a3' css.length k3'] 32)
   have hC:=RowL.alloc 32 w4 [.string s0,.slice a1 ln k1,.string s1,.int .i64 cm,.int .i64 cx,.int .i64 ckd,.slice a2' cvs.length k2',.slice a3' css.length k3']
   have hle:=(HKA.out.trans hk4).size
   generalize w4.alloc (.cells #[.string s0,.slice a1 ln k1,.string s1,.int .i64 cm,.int .i64 cx,.int .i64 ckd,.slice a2' cvs.length k2',.slice a3' css.length k3'] 32) = W4 at hkC hC ⊢
   obtain ⟨cb,hcb⟩:∃ q,q = w4.heap.size:=⟨_,rfl⟩
   rw [<- hcb] at hC hle ⊢
   have hZ:=HZ.out.kept hkC
   have HOW4:=hid' (show OwnS w2.heap.size W4 (.slice a1 ln k1) cnd/\OwnN w2.heap.size W4 (.slice a2' cvs.length k2') cvs/\OwnI w2.heap.size W4 (.slice a3' css.length k3') css from ⟨own_kept HOW2.out.1 (fun b hb => hkC.block b (HOW2.out.1.lt b hb).2),own_kept HOW2.out.2.1 (fun b hb => hkC.block b (HOW2.out.2.1.lt b hb).2),own_kept HOW2.out.2.2 (fun b hb => hkC.block b (HOW2.out.2.2.lt b hb).2)⟩)
   have HKW:=hid' (HK3.out.trans hkC)
   have hne:¬ rb = cb:=by have h1:=HZ.out.lt; omega
   have hne':¬ cb = rb:=fun e => hne e.symm
   have HZ4:=hid' hZ
   have HC4:=hid' hC
   have c0:=hC.cell 0 (.string s0)
   have c1:=hC.cell 1 (.slice a1 ln k1)
   have c2:=hC.cell 2 (.string s1)
   have c3:=hC.cell 3 (.int .i64 cm)
   have c4:=hC.cell 4 (.int .i64 cx)
   have c5:=hC.cell 5 (.int .i64 ckd)
   have c6:=hC.cell 6 (.slice a2' cvs.length k2')
   have c7:=hC.cell 7 (.slice a3' css.length k3')
   have d0:=hZ.cell 0 (.string ⟨#[]⟩)
   have d1:=hZ.cell 1 (.slice none 0 0)
   have d2:=hZ.cell 2 (.string ⟨#[]⟩)
   have d3:=hZ.cell 3 (.int .i64 0)
   have d4:=hZ.cell 4 (.int .i64 0)
   have d5:=hZ.cell 5 (.int .i64 0)
   have d6:=hZ.cell 6 (.slice none 0 0)
   have d7:=hZ.cell 7 (.slice none 0 0)
   have zd:=hZ.fz
   clear hkC hC hZ hle hcb hk4 hco HKA HOW2 HOW HZ
   refine (among_is s0[0] ⟨#[114,99,108]⟩ [114,99,108] _ rfl).mono ?_
   rintro e w5 ⟨rfl,rfl⟩
   rw [show decide (s0[0] ∈ ([114,99,108]:List UInt8)) = zeroC s0[0] from rfl]
   have HFIN:=hid' (fin_own (rb:=rb) (x0:=.string s0) (x1:=.slice a1 ln k1) (x2:=.string s1) (x3:=.int .i64 cm) (x4:=.int .i64 cx) (x5:=.int .i64 ckd) (x6:=.slice a2' cvs.length k2') (x7:=.slice a3' css.length k3') HZ4.out HOW4.out HLE.out)
   have HWV:=hid' (wave_not_zero s0[0])
   by_cases hz:zeroC s0[0] = true
   ·
    have hw:waveC s0[0] = false:=HWV.out hz
    rw [hz]
    by_cases hm:cm = 0/\cx = 0
    ·
     obtain ⟨rfl,rfl⟩:=hm
     have HR4:=hid' (show r = .error 11 by rw [HR3.out]; unfold endC; rw [<- HQ.out,if_pos ⟨hz,rfl⟩])
     go_wp2_with fail
     refine bodyPost_ret (v:=.tuple #[.agg #[.string ⟨#[]⟩,.slice none 0 0,.string ⟨#[]⟩,.int .i64 0,.int .i64 0,.int .i64 0,.slice none 0 0,.slice none 0 0],.int .i64 11]) (by simp [results,Tryz.results6,go_sem,d0,d1,d2,d3,d4,d5,d6,d7]) rfl ⟨?_,?_⟩
     ·
      exact Kept.set8 HKW.out (Nat.le_of_eq HRB.out.symm) _ _ _ _ _ _ _ _
     ·
      rw [HR4.out]
      exact ⟨rfl,by decide⟩
    ·
     have HR4:=hid' (show r = .ok ⟨cn,cnd,cr,(cm,cx),ckd,cvs,css⟩ by
      rw [HR3.out]; unfold endC
      rw [<- HQ.out,if_neg (fun e => hm (by have:=e.2; simp at this; exact this)),if_neg (fun e => by rw [hw] at e; exact absurd e.1 (by decide))])
     by_cases hcm:cm = 0
     ·
      subst hcm
      have hcx:¬ cx = 0:=fun e => hm ⟨rfl,e⟩
      have hcx':(cx == 0) = false:=by simpa using hcx
      clear hm
      go_wp2_with fail
      refine (among_is s0[0] ⟨#[118,105]⟩ [118,105] _ rfl).mono ?_
      rintro e w6 ⟨rfl,rfl⟩
      rw [show decide (s0[0] ∈ ([118,105]:List UInt8)) = waveC s0[0] from rfl]
      rw [hw]
      go_wp2_with fail
      refine bodyPost_ret (v:=.tuple #[.agg #[.string s0,.slice a1 ln k1,.string s1,.int .i64 0,.int .i64 cx,.int .i64 ckd,.slice a2' cvs.length k2',.slice a3' css.length k3'],.int .i64 0]) (by simp [results,Tryz.results6,go_sem,d0,d1,d2,d3,d4,d5,d6,d7]) rfl ⟨?_,?_⟩
      ·
       exact Kept.set8 HKW.out (Nat.le_of_eq HRB.out.symm) _ _ _ _ _ _ _ _
      ·
       rw [HR4.out]
       refine ⟨_,rfl,_,_,_,by unfold cdV; rw [<- HS1.out,show bs cn = s0 by rw [HNM.out,HS0.out]],?_,?_,?_⟩
       ·
        exact HFIN.out.1
       ·
        exact HFIN.out.2.1
       ·
        exact HFIN.out.2.2
     ·
      have hcm':(cm == 0) = false:=by simpa using hcm
      clear hm
      go_wp2_with fail
      refine (among_is s0[0] ⟨#[118,105]⟩ [118,105] _ rfl).mono ?_
      rintro e w6 ⟨rfl,rfl⟩
      rw [show decide (s0[0] ∈ ([118,105]:List UInt8)) = waveC s0[0] from rfl]
      rw [hw]
      go_wp2_with fail
      refine bodyPost_ret (v:=.tuple #[.agg #[.string s0,.slice a1 ln k1,.string s1,.int .i64 cm,.int .i64 cx,.int .i64 ckd,.slice a2' cvs.length k2',.slice a3' css.length k3'],.int .i64 0]) (by simp [results,Tryz.results6,go_sem,d0,d1,d2,d3,d4,d5,d6,d7]) rfl ⟨?_,?_⟩
      ·
       exact Kept.set8 HKW.out (Nat.le_of_eq HRB.out.symm) _ _ _ _ _ _ _ _
      ·
       rw [HR4.out]
       refine ⟨_,rfl,_,_,_,by unfold cdV; rw [<- HS1.out,show bs cn = s0 by rw [HNM.out,HS0.out]],?_,?_,?_⟩
       ·
        exact HFIN.out.1
       ·
        exact HFIN.out.2.1
       ·
        exact HFIN.out.2.2
   ·
    have hz:zeroC s0[0] = false:=by simpa using hz
    rw [hz]
    go_wp2_with fail
    refine (among_is s0[0] ⟨#[118,105]⟩ [118,105] _ rfl).mono ?_
    rintro e w6 ⟨rfl,rfl⟩
    rw [show decide (s0[0] ∈ ([118,105]:List UInt8)) = waveC s0[0] from rfl]
    by_cases hw:waveC s0[0] = true
    ·
     rw [hw]
     have hva:=fun V (K:Kept w6 V) => valid_any ckd a2' a3' cvs.length k2' css.length k3' cvs css V ((OwnN.nsl HOW4.out.2.1).kept K) ((OwnI.isl HOW4.out.2.2).kept K)
     by_cases hok:okW ckd cvs css = true
     ·
      have HR4:=hid' (show r = .ok ⟨cn,cnd,cr,(cm,cx),ckd,cvs,css⟩ by
       rw [HR3.out]; unfold endC
       rw [<- HQ.out,if_neg (fun e => by rw [hz] at e; exact absurd e.1 (by decide)),if_neg (fun e => by rw [hok] at e; exact absurd e.2 (by decide))])
      rw [hok] at hva
      go_wp2_with fail
      refine (hva _ (Kept.refl _)).mono ?_
      rintro e w7 ⟨hk7,rfl⟩
      have hZ:=HZ4.out.kept hk7
      have hC:=HC4.out.kept hk7
      have HOW7:=hid' (show OwnS w2.heap.size w7 (.slice a1 ln k1) cnd/\OwnN w2.heap.size w7 (.slice a2' cvs.length k2') cvs/\OwnI w2.heap.size w7 (.slice a3' css.length k3') css from ⟨own_kept HOW4.out.1 (fun b hb => hk7.block b (HOW4.out.1.lt b hb).2),own_kept HOW4.out.2.1 (fun b hb => hk7.block b (HOW4.out.2.1.lt b hb).2),own_kept HOW4.out.2.2 (fun b hb => hk7.block b (HOW4.out.2.2.lt b hb).2)⟩)
      have HKW:=hid' (HKW.out.trans hk7)
      have HFIN:=hid' (fin_own (rb:=rb) (x0:=.string s0) (x1:=.slice a1 ln k1) (x2:=.string s1) (x3:=.int .i64 cm) (x4:=.int .i64 cx) (x5:=.int .i64 ckd) (x6:=.slice a2' cvs.length k2') (x7:=.slice a3' css.length k3') hZ HOW7.out HLE.out)
      clear c0 c1 c2 c3 c4 c5 c6 c7 d0 d1 d2 d3 d4 d5 d6 d7 zd
      have c0:=hC.cell 0 (.string s0)
      have c1:=hC.cell 1 (.slice a1 ln k1)
      have c2:=hC.cell 2 (.string s1)
      have c3:=hC.cell 3 (.int .i64 cm)
      have c4:=hC.cell 4 (.int .i64 cx)
      have c5:=hC.cell 5 (.int .i64 ckd)
      have c6:=hC.cell 6 (.slice a2' cvs.length k2')
      have c7:=hC.cell 7 (.slice a3' css.length k3')
      have d0:=hZ.cell 0 (.string ⟨#[]⟩)
      have d1:=hZ.cell 1 (.slice none 0 0)
      have d2:=hZ.cell 2 (.string ⟨#[]⟩)
      have d3:=hZ.cell 3 (.int .i64 0)
      have d4:=hZ.cell 4 (.int .i64 0)
      have d5:=hZ.cell 5 (.int .i64 0)
      have d6:=hZ.cell 6 (.slice none 0 0)
      have d7:=hZ.cell 7 (.slice none 0 0)
      have zd:=hZ.fz
      clear hC hZ hk7 hva
      go_wp2_with fail
      refine bodyPost_ret (v:=.tuple #[.agg #[.string s0,.slice a1 ln k1,.string s1,.int .i64 cm,.int .i64 cx,.int .i64 ckd,.slice a2' cvs.length k2',.slice a3' css.length k3'],.int .i64 0]) (by simp [results,Tryz.results6,go_sem,d0,d1,d2,d3,d4,d5,d6,d7]) rfl ⟨?_,?_⟩
      ·
       exact Kept.set8 HKW.out (Nat.le_of_eq HRB.out.symm) _ _ _ _ _ _ _ _
      ·
       rw [HR4.out]
       refine ⟨_,rfl,_,_,_,by unfold cdV; rw [<- HS1.out,show bs cn = s0 by rw [HNM.out,HS0.out]],?_,?_,?_⟩
       ·
        exact HFIN.out.1
       ·
        exact HFIN.out.2.1
       ·
        exact HFIN.out.2.2
     ·
      have hok:okW ckd cvs css = false:=by simpa using hok
      have HR4:=hid' (show r = .error 40 by
       rw [HR3.out]; unfold endC
       rw [<- HQ.out,if_neg (fun e => by rw [hz] at e; exact absurd e.1 (by decide)),if_pos ⟨hw,hok⟩])
      rw [hok] at hva
      go_wp2_with fail
      refine (hva _ (Kept.refl _)).mono ?_
      rintro e w7 ⟨hk7,rfl⟩
      have hZ:=HZ4.out.kept hk7
      have hC:=HC4.out.kept hk7
      have HOW7:=hid' (show OwnS w2.heap.size w7 (.slice a1 ln k1) cnd/\OwnN w2.heap.size w7 (.slice a2' cvs.length k2') cvs/\OwnI w2.heap.size w7 (.slice a3' css.length k3') css from ⟨own_kept HOW4.out.1 (fun b hb => hk7.block b (HOW4.out.1.lt b hb).2),own_kept HOW4.out.2.1 (fun b hb => hk7.block b (HOW4.out.2.1.lt b hb).2),own_kept HOW4.out.2.2 (fun b hb => hk7.block b (HOW4.out.2.2.lt b hb).2)⟩)
      have HKW:=hid' (HKW.out.trans hk7)
      have HFIN:=hid' (fin_own (rb:=rb) (x0:=.string s0) (x1:=.slice a1 ln k1) (x2:=.string s1) (x3:=.int .i64 cm) (x4:=.int .i64 cx) (x5:=.int .i64 ckd) (x6:=.slice a2' cvs.length k2') (x7:=.slice a3' css.length k3') hZ HOW7.out HLE.out)
      clear c0 c1 c2 c3 c4 c5 c6 c7 d0 d1 d2 d3 d4 d5 d6 d7 zd
      have c0:=hC.cell 0 (.string s0)
      have c1:=hC.cell 1 (.slice a1 ln k1)
      have c2:=hC.cell 2 (.string s1)
      have c3:=hC.cell 3 (.int .i64 cm)
      have c4:=hC.cell 4 (.int .i64 cx)
      have c5:=hC.cell 5 (.int .i64 ckd)
      have c6:=hC.cell 6 (.slice a2' cvs.length k2')
      have c7:=hC.cell 7 (.slice a3' css.length k3')
      have d0:=hZ.cell 0 (.string ⟨#[]⟩)
      have d1:=hZ.cell 1 (.slice none 0 0)
      have d2:=hZ.cell 2 (.string ⟨#[]⟩)
      have d3:=hZ.cell 3 (.int .i64 0)
      have d4:=hZ.cell 4 (.int .i64 0)
      have d5:=hZ.cell 5 (.int .i64 0)
      have d6:=hZ.cell 6 (.slice none 0 0)
      have d7:=hZ.cell 7 (.slice none 0 0)
      have zd:=hZ.fz
      clear hC hZ hk7 hva
      go_wp2_with fail
      refine bodyPost_ret (v:=.tuple #[.agg #[.string ⟨#[]⟩,.slice none 0 0,.string ⟨#[]⟩,.int .i64 0,.int .i64 0,.int .i64 0,.slice none 0 0,.slice none 0 0],.int .i64 40]) (by simp [results,Tryz.results6,go_sem,d0,d1,d2,d3,d4,d5,d6,d7]) rfl ⟨?_,?_⟩
      ·
       exact Kept.set8 HKW.out (Nat.le_of_eq HRB.out.symm) _ _ _ _ _ _ _ _
      ·
       rw [HR4.out]
       exact ⟨rfl,by decide⟩
    ·
     have hw:waveC s0[0] = false:=by simpa using hw
     have HR4:=hid' (show r = .ok ⟨cn,cnd,cr,(cm,cx),ckd,cvs,css⟩ by
      rw [HR3.out]; unfold endC
      rw [<- HQ.out,if_neg (fun e => by rw [hz] at e; exact absurd e.1 (by decide)),if_neg (fun e => by rw [hw] at e; exact absurd e.1 (by decide))])
     rw [hw]
     go_wp2_with fail
     refine bodyPost_ret (v:=.tuple #[.agg #[.string s0,.slice a1 ln k1,.string s1,.int .i64 cm,.int .i64 cx,.int .i64 ckd,.slice a2' cvs.length k2',.slice a3' css.length k3'],.int .i64 0]) (by simp [results,Tryz.results6,go_sem,d0,d1,d2,d3,d4,d5,d6,d7]) rfl ⟨?_,?_⟩
     ·
      exact Kept.set8 HKW.out (Nat.le_of_eq HRB.out.symm) _ _ _ _ _ _ _ _
     ·
      rw [HR4.out]
      refine ⟨_,rfl,_,_,_,by unfold cdV; rw [<- HS1.out,show bs cn = s0 by rw [HNM.out,HS0.out]],?_,?_,?_⟩
      ·
       exact HFIN.out.1
      ·
       exact HFIN.out.2.1
      ·
       exact HFIN.out.2.2
open Q (hid' parseOf Lett ErrV)
open X (bs OwnS RS strs bs_list bs_size zk zr zl zd region_z)
theorem own_keptK {w w':World} {B:Nat} {e:TypeId} {sz n:Nat} {v:Value} {xs:List Value} (h:w.ownsRow B e sz v n xs) (k:Kept w w'):w'.ownsRow B e sz v n xs:=own_kept h (fun b hb => k.block b (h.lt b hb).2)
theorem cell_two' (w:World) (x y:Value) (t t':TypeId) (o:Array Value):∀ j u,([x,y]:List Value)[j]? = some u->((w.alloc (.cells o t')).alloc (.cells #[x,y] t)).cell? ((⟨w.heap.size + 1,0,none⟩:Addr).add j) = some u:=by
 have:=cell_two (w.alloc (.cells o t')) x y t
 rwa [World.size_alloc] at this
theorem gv_step {L:List (Int × Int)} {k:Nat} {g v:List (Int × Int)} (h:gvAll 0 [] [] L = gvAll k g v (L.drop k)) (hk:k < L.length) :
  gvAll 0 [] [] L = if k % 2 = 0 then gvAll (k + 1) (g ++ [L.getD k (0,0)]) v (L.drop (k + 1)) else gvAll (k + 1) g (v ++ [L.getD k (0,0)]) (L.drop (k + 1)):=by
 rw [h,List.drop_eq_getElem_cons hk,gvAll,List.getD_eq_getElem?_getD,List.getElem?_eq_getElem hk]
 rfl
structure MoI (w wr:World) (s:ByteArray) (z:Int) (L:List (Int × Int)) (k:Nat) (g v:List (Int × Int)) (gv vv:Value):Prop where
 kp:Kept w wr
 rr:Row4 45 wr (w.heap.size + 1) (.string ⟨#[]⟩) (.int .u8 0) (.slice none 0 0) (.slice none 0 0)
 mr:Row4 45 wr (w.heap.size + 1 + 1) (.string s) (.int .u8 z) gv vv
 og:OwnN (w.heap.size + 3) wr gv g
 ov:OwnN (w.heap.size + 3) wr vv v
 ne:∀ b,gv.ownBlock = some b->vv.ownBlock ≠ some b
 eq:gvAll 0 [] [] L = gvAll k g v (L.drop k)
 lg:g.length<=k
 lv:v.length<=k
theorem moi_g {w wr W3 W4:World} {s:ByteArray} {z:Int} {L:List (Int × Int)} {k:Nat} {g v:List (Int × Int)} {gv vv:Value} {y0 y1:Int} {g4 cap4:Nat} (H:MoI w wr s z L k g v gv vv) (KA:Kept wr W3) (own4:W4.ownsRow (w.heap.size + 3) 26 2 (.slice (some ⟨g4,0,none⟩) (g.length + 1) cap4) (g.length + 1) (ncs g ++ [.int .i64 y0,.int .i64 y1])) (hg:W3.grownBy W4 gv.ownBlock) (hgg:gv.ownBlock = some g4 ∨ g4 = W3.heap.size) (hz:gvAll 0 [] [] L = gvAll (k + 1) (g ++ [(y0,y1)]) v (L.drop (k + 1))) :
  True/\Row4 45 W4 (w.heap.size + 1 + 1) (.string s) (.int .u8 z) gv vv/\MoI w (W4.setCell ⟨w.heap.size + 1 + 1,2,none⟩ (.slice (some ⟨g4,0,none⟩) (g.length + 1) cap4)) s z L (k + 1) (g ++ [(y0,y1)]) v (.slice (some ⟨g4,0,none⟩) (g.length + 1) cap4) vv:=by
 have hM:=H.mr.kept KA
 have hR:=H.rr.kept KA
 have o1:=own_keptK H.og KA
 have o2:=own_keptK H.ov KA
 have n1:gv.ownBlock ≠ some (w.heap.size + 1 + 1):=own_row o1 hM (by decide)
 have n2:gv.ownBlock ≠ some (w.heap.size + 1):=own_row o1 hR (by decide)
 have hM4:Row4 45 W4 (w.heap.size + 1 + 1) (.string s) (.int .u8 z) gv vv:=World.rowIs.of_block hM (hg.block _ hM.lt (fun e => n1 e.symm))
 have hR4:Row4 45 W4 (w.heap.size + 1) (.string ⟨#[]⟩) (.int .u8 0) (.slice none 0 0) (.slice none 0 0):=World.rowIs.of_block hR (hg.block _ hR.lt (fun e => n2 e.symm))
 have hB:w.heap.size + 3<=W3.heap.size:=by have:=hM.lt; omega
 have hk4:Kept w W4:=Below.grown (H.kp.trans KA) hg (by omega) (fun b hb => by have:=(o1.lt b hb).1; omega)
 have hne:∀ b,gv.ownBlock = some b->vv.ownBlock ≠ some b:=H.ne
 have o:∀ b,b ≠ w.heap.size + 1 + 1->(W4.setCell ⟨w.heap.size + 1 + 1,2,none⟩ (.slice (some ⟨g4,0,none⟩) (g.length + 1) cap4)).heap[b]? = W4.heap[b]?:=fun b hb => Deep.blk_setCell_other _ _ _ _ hb
 have hg4:g4 ≠ w.heap.size + 1 + 1:=by
  rcases hgg with h1 | h1
  ·
   intro e; exact n1 (by rw [h1,e])
  ·
   have:=hM.lt; omega
 refine ⟨trivial,hM4,hk4.setCell (by show w.heap.size<=w.heap.size + 1 + 1; omega) _,World.rowIs.setOther hR4 (by show w.heap.size + 1 ≠ w.heap.size + 1 + 1; omega) _,?_,?_,?_,fun b hb => ?_,hz,?_,?_⟩
 ·
  exact (World.rowIs.set hM4 2 _).congr (fun i hi => by
   match i,hi with
   | 0,_ => rfl
   | 1,_ => rfl
   | 2,_ => rfl
   | 3,_ => rfl)
 ·
  unfold OwnN
  rw [ncs_app,List.length_append,List.length_singleton]
  refine own_kept own4 fun b hb => o b ?_
  have:g4 = b:=by simpa [Value.ownBlock] using hb
  omega
 ·
  refine own_kept o2 fun b hb => (o b ?_).trans (hg.block b (o2.lt b hb).2 (fun e => hne b e.symm hb))
  intro e; subst e; exact own_row o2 hM (by decide) hb
 ·
  have hb':g4 = b:=by simpa [Value.ownBlock] using hb
  intro e
  rcases hgg with h1 | h1
  ·
   exact hne b (by rw [h1,hb']) e
  ·
   have:=(o2.lt b e).2; omega
 ·
  have:=H.lg; rw [List.length_append,List.length_singleton]; omega
 ·
  have:=H.lv; omega
theorem moi_v {w wr W3 W4:World} {s:ByteArray} {z:Int} {L:List (Int × Int)} {k:Nat} {g v:List (Int × Int)} {gv vv:Value} {y0 y1:Int} {g4 cap4:Nat} (H:MoI w wr s z L k g v gv vv) (KA:Kept wr W3) (own4:W4.ownsRow (w.heap.size + 3) 26 2 (.slice (some ⟨g4,0,none⟩) (v.length + 1) cap4) (v.length + 1) (ncs v ++ [.int .i64 y0,.int .i64 y1])) (hg:W3.grownBy W4 vv.ownBlock) (hgg:vv.ownBlock = some g4 ∨ g4 = W3.heap.size) (hz:gvAll 0 [] [] L = gvAll (k + 1) g (v ++ [(y0,y1)]) (L.drop (k + 1))) :
  True/\Row4 45 W4 (w.heap.size + 1 + 1) (.string s) (.int .u8 z) gv vv/\MoI w (W4.setCell ⟨w.heap.size + 1 + 1,3,none⟩ (.slice (some ⟨g4,0,none⟩) (v.length + 1) cap4)) s z L (k + 1) g (v ++ [(y0,y1)]) gv (.slice (some ⟨g4,0,none⟩) (v.length + 1) cap4):=by
 have hM:=H.mr.kept KA
 have hR:=H.rr.kept KA
 have o1:=own_keptK H.ov KA
 have o2:=own_keptK H.og KA
 have n1:vv.ownBlock ≠ some (w.heap.size + 1 + 1):=own_row o1 hM (by decide)
 have n2:vv.ownBlock ≠ some (w.heap.size + 1):=own_row o1 hR (by decide)
 have hM4:Row4 45 W4 (w.heap.size + 1 + 1) (.string s) (.int .u8 z) gv vv:=World.rowIs.of_block hM (hg.block _ hM.lt (fun e => n1 e.symm))
 have hR4:Row4 45 W4 (w.heap.size + 1) (.string ⟨#[]⟩) (.int .u8 0) (.slice none 0 0) (.slice none 0 0):=World.rowIs.of_block hR (hg.block _ hR.lt (fun e => n2 e.symm))
 have hB:w.heap.size + 3<=W3.heap.size:=by have:=hM.lt; omega
 have hk4:Kept w W4:=Below.grown (H.kp.trans KA) hg (by omega) (fun b hb => by have:=(o1.lt b hb).1; omega)
 have hne:∀ b,vv.ownBlock = some b->gv.ownBlock ≠ some b:=fun b h1 h2 => H.ne b h2 h1
 have o:∀ b,b ≠ w.heap.size + 1 + 1->(W4.setCell ⟨w.heap.size + 1 + 1,3,none⟩ (.slice (some ⟨g4,0,none⟩) (v.length + 1) cap4)).heap[b]? = W4.heap[b]?:=fun b hb => Deep.blk_setCell_other _ _ _ _ hb
 have hg4:g4 ≠ w.heap.size + 1 + 1:=by
  rcases hgg with h1 | h1
  ·
   intro e; exact n1 (by rw [h1,e])
  ·
   have:=hM.lt; omega
 refine ⟨trivial,hM4,hk4.setCell (by show w.heap.size<=w.heap.size + 1 + 1; omega) _,World.rowIs.setOther hR4 (by show w.heap.size + 1 ≠ w.heap.size + 1 + 1; omega) _,?_,?_,?_,fun b hb => ?_,hz,?_,?_⟩
 ·
  exact (World.rowIs.set hM4 3 _).congr (fun i hi => by
   match i,hi with
   | 0,_ => rfl
   | 1,_ => rfl
   | 2,_ => rfl
   | 3,_ => rfl)
 ·
  refine own_kept o2 fun b hb => (o b ?_).trans (hg.block b (o2.lt b hb).2 (fun e => hne b e.symm hb))
  intro e; subst e; exact own_row o2 hM (by decide) hb
 ·
  unfold OwnN
  rw [ncs_app,List.length_append,List.length_singleton]
  refine own_kept own4 fun b hb => o b ?_
  have:g4 = b:=by simpa [Value.ownBlock] using hb
  omega
 ·
  intro e
  have hb':g4 = b:=by simpa [Value.ownBlock] using e
  rcases hgg with h1 | h1
  ·
   exact hne b (by rw [h1,hb']) hb
  ·
   have:=(o2.lt b hb).2; omega
 ·
  have:=H.lg; omega
 ·
  have:=H.lv; rw [List.length_append,List.length_singleton]; omega
set_option maxRecDepth 100000 in
set_option maxHeartbeats 4000000 in
theorem modelOf_any (z:Int) (p:Pt) (a1 a2 a3:Option Addr) (n1 k1 n k2 n3 k3:Nat) (w:World) (hx:NSl w (.slice a2 n k2) p.nums) (hl:n<=1000) :
  Calls Tryz.prog 30 #[.int .u8 z,.agg #[.slice a1 n1 k1,.string (bs p.name),.slice a2 n k2,.slice a3 n3 k3]] w fun e w' => Kept w w' /\
   ∃ gv vv,e = .returned (.agg #[.string (bs p.name),.int .u8 z,gv,vv])/\OwnN w.heap.size w' gv (gvAll 0 [] [] p.nums).1/\OwnN w.heap.size w' vv (gvAll 0 [] [] p.nums).2:=by
 have HS:=hid' hx
 have hn:n = p.nums.length:=hx.len
 obtain ⟨s1,hs1⟩:∃ s,s = bs p.name:=⟨_,rfl⟩
 rw [<- hs1]
 obtain ⟨L,hL⟩:∃ L,L = p.nums:=⟨_,rfl⟩
 rw [<- hL] at HS hn ⊢
 clear hs1 hL hx
 have HN:=hid' hn
 clear hn
 obtain ⟨i0,hi,hz0,hz1,hz2⟩:=info_parts info_num
 go_enter Tryz.func30,Tryz.ntmps30
 go_wp2_with fail
 have hK:=(((Kept.refl w).alloc (.cells #[.slice a1 n1 k1,.string s1,.slice a2 n k2,.slice a3 n3 k3] 50)).alloc (.cells #[.string ⟨#[]⟩,.int .u8 0,.slice none 0 0,.slice none 0 0] 45)).alloc (.cells #[.string s1,.int .u8 z,.slice none 0 0,.slice none 0 0] 45)
 have hr:=(Row4.alloc 45 (w.alloc (.cells #[.slice a1 n1 k1,.string s1,.slice a2 n k2,.slice a3 n3 k3] 50)) (.string ⟨#[]⟩) (.int .u8 0) (.slice none 0 0) (.slice none 0 0)).kept ((Kept.refl _).alloc (.cells #[.string s1,.int .u8 z,.slice none 0 0,.slice none 0 0] 45))
 have hm:=Row4.alloc 45 ((w.alloc (.cells #[.slice a1 n1 k1,.string s1,.slice a2 n k2,.slice a3 n3 k3] 50)).alloc (.cells #[.string ⟨#[]⟩,.int .u8 0,.slice none 0 0,.slice none 0 0] 45)) (.string s1) (.int .u8 z) (.slice none 0 0) (.slice none 0 0)
 simp only [World.size_alloc] at hr hm
 have HI:Hid (MoI w _ s1 z L 0 [] [] (.slice none 0 0) (.slice none 0 0)):=⟨hK,hr,hm,World.ownsRow_nil _ _ _ _,World.ownsRow_nil _ _ _ _,fun b h => by simp [Value.ownBlock] at h,rfl,Nat.le_refl _,Nat.le_refl _⟩
 clear hK hr hm
 generalize ((w.alloc (.cells #[.slice a1 n1 k1,.string s1,.slice a2 n k2,.slice a3 n3 k3] 50)).alloc (.cells #[.string ⟨#[]⟩,.int .u8 0,.slice none 0 0,.slice none 0 0] 45)).alloc (.cells #[.string s1,.int .u8 z,.slice none 0 0,.slice none 0 0] 45) = W0 at HI ⊢
 obtain ⟨pb,hpb⟩:∃ q,q = w.heap.size:=⟨_,rfl⟩
 rw [<- hpb]
 have HPB:=hid' hpb
 clear hpb
 go_loopw [15] (fun vi wr => ∃ (k:Nat) (g v:List (Int × Int)) (gv vv:Value),k<=n/\vi = .int .i64 (k:Int)/\Hid (MoI w wr s1 z L k g v gv vv)) (fun vi _ => n - (intOf vi).toNat)
 case atStart => exact ⟨0,[],[],_,_,Nat.zero_le _,rfl,HI.out⟩
 case round =>
  obtain ⟨k,g,v,gv,vv,hk,rfl,H⟩:=hrel
  clear HI
  have e2:=H.out.mr.c2
  have e3:=H.out.mr.c3
  have z2:=World.rowIs.frozen H.out.mr
  rw [<- HPB.out] at e2 e3 z2
  by_cases hkt:k < n
  ·
   have hki:(k:Int) < (n:Int):=by omega
   have hgl:=H.out.lg
   have hvl:=H.out.lv
   obtain ⟨ao',c',hv',hx⟩:=HS.out.kept H.out.kp
   simp only [Value.slice.injEq] at hv'
   obtain ⟨rfl,hnw,rfl⟩:=hv'
   obtain ⟨b,off,rfl,hb,hcl⟩:=hx (by omega)
   obtain ⟨q0,q1⟩:=hcl k (by omega)
   have HZ:=hid' (gv_step H.out.eq (by rw [<- HN.out]; exact hkt))
   generalize hy:L.getD k (0,0) = y at q0 q1 HZ
   obtain ⟨y0,y1⟩:=y
   simp only at q0 q1
   have KA:=((Kept.refl wr).alloc (.cells #[.int .i64 y0,.int .i64 y1] 26)).alloc (.cells #[.int .i64 y0,.int .i64 y1] 26)
   have hbw:¬ b = wr.heap.size:=by omega
   have hM1:=H.out.mr.kept ((Kept.refl wr).alloc (.cells #[.int .i64 y0,.int .i64 y1] 26))
   rw [<- HPB.out] at hM1
   have e2a:=hM1.c2
   have e3a:=hM1.c3
   clear hM1
   clear hx hcl hnw hy
   by_cases hpar:k % 2 = 0
   ·
    have hm0:(k:Int).tmod 2 = 0:=by rw [Int.tmod_eq_emod_of_nonneg (by omega)]; omega
    have hm0':((k:Int).tmod 2 == 0) = true:=by simpa using hm0
    rw [if_pos hpar] at HZ
    go_wp2_with (at_builtin; refine wpList_append_lies _ rfl (.tmp 24) (.tmp 26) 27 rfl (w.heap.size + 3) 26 i0 (.agg #[.int .i64 0,.int .i64 0]) 2 16 und_nums hi hz0 hz1 hz2 rfl (by decide) gv g.length (ncs g) rfl (by exact own_keptK H.out.og KA) ⟨wr.heap.size + 1,0,none⟩ 1 1 [.int .i64 y0,.int .i64 y1] rfl rfl (by exact cell_two' wr _ _ _ _ _) (fun u hu => by simp at hu; rcases hu with rfl | rfl <;> rfl) (by omega) (by unfold maxLen; omega) (by omega) (by have:=H.out.kp.size; have:=H.out.mr.lt; simp; omega) _ rfl ?_)
    intro g4 cap4 W4 own4 hg4 hgg _
    have HM:=hid' (moi_g H.out KA own4 hg4 (by simpa using hgg) HZ.out)
    have hM2:=HM.out.2.2
    rw [<- HPB.out] at hM2
    have HM2:=hid' hM2
    clear hM2
    have hr4:=HM.out.2.1
    rw [<- HPB.out] at hr4
    have e4:=hr4.c2
    have f4:=World.rowIs.frozen hr4
    clear own4 hg4 hgg KA e2 e3 e2a e3a q0 q1 hr4
    go_wp2_with fail
    go_roundw
    case rel => exact ⟨k + 1,_,_,_,_,by omega,by go_num,HM2.out⟩
    case measure => show n - ((k:Int) + 1).toNat < n - (k:Int).toNat; omega
   ·
    have hm0:¬ (k:Int).tmod 2 = 0:=by rw [Int.tmod_eq_emod_of_nonneg (by omega)]; omega
    have hm0':((k:Int).tmod 2 == 0) = false:=by simpa using hm0
    rw [if_neg hpar] at HZ
    go_wp2_with (at_builtin; refine wpList_append_lies _ rfl (.tmp 30) (.tmp 32) 27 rfl (w.heap.size + 3) 26 i0 (.agg #[.int .i64 0,.int .i64 0]) 2 16 und_nums hi hz0 hz1 hz2 rfl (by decide) vv v.length (ncs v) rfl (by exact own_keptK H.out.ov KA) ⟨wr.heap.size + 1,0,none⟩ 1 1 [.int .i64 y0,.int .i64 y1] rfl rfl (by exact cell_two' wr _ _ _ _ _) (fun u hu => by simp at hu; rcases hu with rfl | rfl <;> rfl) (by omega) (by unfold maxLen; omega) (by omega) (by have:=H.out.kp.size; have:=H.out.mr.lt; simp; omega) _ rfl ?_)
    intro g4 cap4 W4 own4 hg4 hgg _
    have HM:=hid' (moi_v H.out KA own4 hg4 (by simpa using hgg) HZ.out)
    have hM2:=HM.out.2.2
    rw [<- HPB.out] at hM2
    have HM2:=hid' hM2
    clear hM2
    have hr4:=HM.out.2.1
    rw [<- HPB.out] at hr4
    have e4:=hr4.c3
    have f4:=World.rowIs.frozen hr4
    clear own4 hg4 hgg KA e2 e3 e2a e3a q0 q1 hr4
    go_wp2_with fail
    go_roundw
    case rel => exact ⟨k + 1,_,_,_,_,by omega,by go_num,HM2.out⟩
    case measure => show n - ((k:Int) + 1).toNat < n - (k:Int).toNat; omega
  ·
   have hki:¬ (k:Int) < (n:Int):=by omega
   obtain rfl:k = n:=by omega
   have HE:=hid' (show gvAll 0 [] [] L = (g,v) by
    rw [H.out.eq,List.drop_eq_nil_of_le (by rw [<- HN.out]; exact Nat.le_refl _)]
    rfl)
   have hM:=H.out.mr
   have hR:=H.out.rr
   rw [<- HPB.out] at hM hR
   obtain ⟨b1,c1,rfl⟩:=own_shape H.out.og
   obtain ⟨b2,c2,rfl⟩:=own_shape H.out.ov
   have m0:=hM.c0
   have m1:=hM.c1
   have d0:=hR.c0
   have d1:=hR.c1
   have d2:=hR.c2
   have d3:=hR.c3
   have zd:=World.rowIs.frozen hR
   have HRr:=hid' hR
   clear hM hR z2
   go_wp2_with fail
   refine bodyPost_ret (v:=.agg #[.string s1,.int .u8 z,.slice b1 g.length c1,.slice b2 v.length c2]) (by simp [results,Tryz.results30,go_sem,d0,d1,d2,d3]) rfl ⟨?_,?_⟩
   ·
    exact kept_put4 H.out.kp (by rw [HPB.out]; exact Nat.le_succ _) _ _ _ _
   ·
    have o:∀ b,b ≠ pb + 1->((((wr.setCell ⟨pb + 1,0,none⟩ (.string s1)).setCell ⟨pb + 1,1,none⟩ (.int .u8 z)).setCell ⟨pb + 1,2,none⟩ (.slice b1 g.length c1)).setCell ⟨pb + 1,3,none⟩ (.slice b2 v.length c2)).heap[b]? = wr.heap[b]?:=fun b hb =>
     (Deep.blk_setCell_other _ _ _ _ hb).trans ((Deep.blk_setCell_other _ _ _ _ hb).trans ((Deep.blk_setCell_other _ _ _ _ hb).trans (Deep.blk_setCell_other _ _ _ _ hb)))
    rw [HE.out]
    refine ⟨_,_,rfl,own_mono (own_kept H.out.og fun b hb => o b ?_) (by omega),own_mono (own_kept H.out.ov fun b hb => o b ?_) (by omega)⟩
    ·
     intro e; subst e; exact own_row H.out.og HRr.out (by decide) hb
    ·
     intro e; subst e; exact own_row H.out.ov HRr.out (by decide) hb
open Q (hid' parseOf Lett ErrV)
open X (bs OwnS RS strs bs_list bs_size)
def MdNew (B:Nat) (w:World) (v:Value) (m:Md):Prop:=∃ gv vv,v = .agg #[.string (bs m.name),.int .u8 m.kind,gv,vv]/\OwnN B w gv m.gs/\OwnN B w vv m.vs
def RmIs (B:Nat) (w:World) (e:Ending):Except Int Md->Prop
  | .error x => e = .returned (.tuple #[.agg #[.string ⟨#[]⟩,.int .u8 0,.slice none 0 0,.slice none 0 0],.int .i64 x])/\x ≠ 0
  | .ok m => ∃ v,e = .returned (.tuple #[v,.int .i64 0])/\MdNew B w v m
def endM (m:Md):Except Int Md:=if okM m.name m.kind m.gs m.vs = true then .ok m else .error 50
def readN (k:Int):Except Int Pt->Except Int Md
  | .error e => .error e
  | .ok p => endM (modelS k p)
theorem readM_yes {ws:List (List UInt8)} (h:¬ (ws.length < 4 ∨ ws.getD 0 [] ≠ [46,109,111,100,101,108])):readM ws = readN (((ws.getD 2 []).getD 0 0).toNat:Int) (partsOf ws (mshape ws)):=by
  unfold readM
  rw [if_neg h]
  cases partsOf ws (mshape ws) <;> rfl
theorem mshape_kind {ws:List (List UInt8)} {p:Pt} (h:partsOf ws (mshape ws) = .ok p) (h4:4<=ws.length):ws.getD 2 [] = [100] ∨ ws.getD 2 [] = [115]:=by
  have h1:=(partsOf_ok h).1
  unfold mshape at h1
  split at h1
  · rename_i e; exact .inl e
  · split at h1
    · rename_i e; exact .inr e
    · rw [List.length_nil] at h1; omega
theorem md_store {B:Nat} {w:World} {mb n1 n2 k1 k2:Nat} {b1 b2:Option Addr} {y0 y1 y2 y3 x0 x1:Value} {gs vs:List (Int × Int)} (hN:Row4 45 w mb y0 y1 y2 y3) (h1:OwnN B w (.slice b1 n1 k1) gs) (h2:OwnN B w (.slice b2 n2 k2) vs) :
    Row4 45 ((((w.setCell ⟨mb,0,none⟩ x0).setCell ⟨mb,1,none⟩ x1).setCell ⟨mb,2,none⟩ (.slice b1 n1 k1)).setCell ⟨mb,3,none⟩ (.slice b2 n2 k2)) mb x0 x1 (.slice b1 n1 k1) (.slice b2 n2 k2) /\
    OwnN B ((((w.setCell ⟨mb,0,none⟩ x0).setCell ⟨mb,1,none⟩ x1).setCell ⟨mb,2,none⟩ (.slice b1 n1 k1)).setCell ⟨mb,3,none⟩ (.slice b2 n2 k2)) (.slice b1 n1 k1) gs /\
    OwnN B ((((w.setCell ⟨mb,0,none⟩ x0).setCell ⟨mb,1,none⟩ x1).setCell ⟨mb,2,none⟩ (.slice b1 n1 k1)).setCell ⟨mb,3,none⟩ (.slice b2 n2 k2)) (.slice b2 n2 k2) vs:=by
  have o:∀ b,b ≠ mb->((((w.setCell ⟨mb,0,none⟩ x0).setCell ⟨mb,1,none⟩ x1).setCell ⟨mb,2,none⟩ (.slice b1 n1 k1)).setCell ⟨mb,3,none⟩ (.slice b2 n2 k2)).heap[b]? = w.heap[b]?:=fun b hb =>
    (Deep.blk_setCell_other _ _ _ _ hb).trans ((Deep.blk_setCell_other _ _ _ _ hb).trans ((Deep.blk_setCell_other _ _ _ _ hb).trans (Deep.blk_setCell_other _ _ _ _ hb)))
  refine ⟨(World.rowIs.set (World.rowIs.set (World.rowIs.set (World.rowIs.set hN 0 x0) 1 x1) 2 (.slice b1 n1 k1)) 3 (.slice b2 n2 k2)).congr (fun i hi => ?_),own_kept h1 fun b hb => o b ?_,own_kept h2 fun b hb => o b ?_⟩
  · match i,hi with
    | 0,_ => rfl
    | 1,_ => rfl
    | 2,_ => rfl
    | 3,_ => rfl
  · intro e; subst e; exact own_row h1 hN (by decide) hb
  · intro e; subst e; exact own_row h2 hN (by decide) hb
theorem okName_len {x:List UInt8} (h:okName x = true):x.length<=16:=by
  unfold okName at h
  have h2:=(Bool.and_eq_true _ _ ▸ h).1
  exact (of_decide_eq_true h2).2
theorem nmStep_name {p q:Pt} {c:UInt8} {x:List UInt8} (h:nmStep p c x = some q) (hp:p.name.length<=16):q.name.length<=16:=by
  unfold nmStep at h
  split at h
  · split at h
    · cases h; exact hp
    · cases h
  split at h
  · split at h
    · rename_i ho; cases h; exact okName_len ho
    · cases h
  split at h
  · split at h
    · rename_i ho
      cases h
      have h1:=ho.1
      unfold devB at h1
      exact okName_len (Bool.and_eq_true _ _ ▸ h1).1
    · cases h
  · cases h; exact hp
theorem nmAll_name:∀ (zs:List (UInt8 × List UInt8)) (p q:Pt),nmAll p zs = some q->p.name.length<=16->q.name.length<=16
  | [],p,q,h,hp => by cases h; exact hp
  | z :: t,p,q,h,hp => by
    unfold nmAll at h
    cases hn:nmStep p z.1 z.2 with
    | none => rw [hn] at h; cases h
    | some r =>
      rw [hn] at h
      exact nmAll_name t r q h (nmStep_name hn hp)
theorem partsOf_name {ws:List (List UInt8)} {sh:List UInt8} {p:Pt} (h:partsOf ws sh = .ok p):p.name.length<=16:=by
  unfold partsOf at h
  split at h
  · cases h
  · cases hn:nmAll Pt.zero (sh.zip ws) with
    | none => rw [hn] at h; cases h
    | some r =>
      rw [hn] at h
      rw [(nuAll_keep _ _ _ h).2.1]
      exact nmAll_name _ _ _ hn (by decide)
set_option maxRecDepth 100000 in
set_option maxHeartbeats 40000000 in
theorem readM_any (ao:Option Addr) (n c:Nat) (ws:List (List UInt8)) (w:World) (hL:Lett w) (hE:ErrV w) (h:RS w (.slice ao n c) ws) (hn2:n<=9223372036854775807) (hs:∀ x ∈ ws,x.length<=9223372036854775807) :
    Calls Tryz.prog 12 #[.slice ao n c] w fun e w' => Kept w w'/\RmIs w.heap.size w' e (readM ws):=by
  have hn:n = ws.length:=by obtain ⟨_,_,e,_⟩:=h; simp at e; exact e.2.1
  have HS:=hid' (And.intro h (And.intro hn (And.intro hs (And.intro hL hE))))
  obtain ⟨r,hr⟩:∃ r,r = readM ws:=⟨_,rfl⟩
  rw [<- hr]
  have HR:=hid' hr
  clear h hs hL hE hr
  by_cases h0:n < 4
  · have HE:=hid' (show r = .error 70 by rw [HR.out]; unfold readM; rw [if_pos (.inl (by omega))])
    have h0':(n:Int) < 4:=by omega
    clear hn
    go_enter Tryz.func12,Tryz.ntmps12
    go_wp2_with fail
    refine bodyPost_ret (v:=.tuple #[.agg #[.string ⟨#[]⟩,.int .u8 0,.slice none 0 0,.slice none 0 0],.int .i64 70]) (by simp [results,Tryz.results12,go_sem]) rfl ⟨?_,?_⟩
    · exact (Kept.refl w).alloc _
    · rw [HE.out]
      exact ⟨rfl,by decide⟩
  have h0':¬ (n:Int) < 4:=by omega
  have hn0:0 < n:=by omega
  have hn3:2 < n:=by omega
  have hnp:(0:Int) < (n:Int):=by omega
  have hn2p:(2:Int) < (n:Int):=by omega
  obtain ⟨b,off,rfl,ck⟩:∃ b off,ao = some ⟨b,off,none⟩/\Hid (b < w.heap.size/\∀ j,j < n->w.cell? ⟨b,off + j,none⟩ = some (.string (bs (ws.getD j [])))):=by
    obtain ⟨ao',c',hv,hx⟩:=HS.out.1
    simp only [Value.slice.injEq] at hv
    obtain ⟨rfl,hn,rfl⟩:=hv
    obtain ⟨b,off,e,h1,h2⟩:=hx (by omega)
    exact ⟨b,off,e,h1,fun j hj => h2 j (by omega)⟩
  have c0:=ck.out.2 0 (by omega)
  rw [Nat.add_zero] at c0
  obtain ⟨s0,hs0e⟩:∃ s,s = bs (ws.getD 0 []):=⟨_,rfl⟩
  rw [<- hs0e] at c0
  have hx1:s0.toList = ws.getD 0 []:=by rw [hs0e,ByteArray.toList_eq,bs_list]
  have HBL:=hid' ck.out.1
  have KZ:=(Kept.refl w).alloc (.cells #[.string ⟨#[]⟩,.int .u8 0,.slice none 0 0,.slice none 0 0] 45)
  have c0':=(Below.cell KZ (p:=⟨b,off,none⟩) HBL.out).trans c0
  have HLN:=hid' hn
  by_cases hm:ws.getD 0 [] = [46,109,111,100,101,108]
  · have bm:(s0.toList == [46,109,111,100,101,108]) = true:=by rw [hx1,hm]; rfl
    have HRn := hid' (HR.out.trans (readM_yes (by rintro (e | e); · omega
                                                  · exact e hm)))
    clear hs0e hn hx1 hm
    go_enter Tryz.func12,Tryz.ntmps12
    go_wp2_with fail
    have hZr:=Row4.alloc 45 w (.string ⟨#[]⟩) (.int .u8 0) (.slice none 0 0) (.slice none 0 0)
    generalize w.alloc (.cells #[.string ⟨#[]⟩,.int .u8 0,.slice none 0 0,.slice none 0 0] 45) = W0 at KZ hZr c0' ⊢
    refine (modelShape_any _ _ _ ws _ (HS.out.1.kept KZ) (by omega) hn2).mono ?_
    rintro e w2 ⟨hk2,rfl⟩
    obtain ⟨rb,hrb⟩:∃ q,q = w.heap.size:=⟨_,rfl⟩
    rw [<- hrb] at hZr ⊢
    have HRB:=hid' hrb
    have HZ:=hid' (hZr.kept hk2)
    have HK:=hid' (KZ.trans hk2)
    have hcl:=mshape_len ws
    rw [<- bs_size] at hcl
    have hrp:=readParts_any (some ⟨b,off,none⟩) n c ws (bs (mshape ws)) w2 (HS.out.2.2.2.1.kept HK.out) (HS.out.2.2.2.2.kept HK.out) (HS.out.1.kept HK.out) (by omega) HS.out.2.2.1
    rw [bs_list] at hrp
    generalize bs (mshape ws) = sh at hrp ⊢
    obtain ⟨o,ho⟩:∃ o,o = partsOf ws (mshape ws):=⟨_,rfl⟩
    rw [<- ho] at hrp HRn
    have HO:=hid' ho
    clear hZr KZ hk2 hrb hcl c0 c0' ho
    go_wp2_with fail
    refine hrp.mono ?_
    rintro e w3 ⟨hk3,hpa⟩
    clear hrp
    have HZ:=hid' (HZ.out.kept hk3)
    have HK3:=hid' (HK.out.trans hk3)
    have HLE:=hid' HK.out.size
    cases o with
    | error x =>
      obtain ⟨rfl,hx0⟩:=hpa
      have hx0':(x == 0) = false:=by simpa using hx0
      have hZ3:=HZ.out.kept ((Kept.refl w3).alloc (.cells #[.slice none 0 0,.string ⟨#[]⟩,.slice none 0 0,.slice none 0 0] 50))
      have d0:=hZ3.c0
      have d1:=hZ3.c1
      have d2:=hZ3.c2
      have d3:=hZ3.c3
      have zd:=World.rowIs.frozen hZ3
      clear hZ3
      go_wp2_with fail
      refine bodyPost_ret (v:=.tuple #[.agg #[.string ⟨#[]⟩,.int .u8 0,.slice none 0 0,.slice none 0 0],.int .i64 x]) (by simp [results,Tryz.results12,go_sem,d0,d1,d2,d3]) rfl ⟨?_,?_⟩
      · exact kept_put4 (HK3.out.alloc _) (Nat.le_of_eq HRB.out.symm) _ _ _ _
      · rw [HRn.out]
        exact ⟨rfl,hx0⟩
    | ok p =>
      obtain ⟨nv,xv,sv,rfl,o1,o2,o3⟩:=hpa
      obtain ⟨a1,k1,rfl⟩:=own_shape o1
      obtain ⟨a2,k2,rfl⟩:=own_shape o2
      obtain ⟨a3,k3,rfl⟩:=own_shape o3
      have hpo:=partsOf_ok HO.out.symm
      have hpn:=partsOf_name HO.out.symm
      have hmk:=mshape_kind HO.out.symm (by have:=HLN.out; omega)
      have hkA:=(Kept.refl w3).alloc (.cells #[.slice a1 p.nodes.length k1,.string (bs p.name),.slice a2 p.nums.length k2,.slice a3 p.steps.length k3] 50)
      have hnl:p.nums.length<=1000:=by
        have h1:=hpo.2.1
        have h2:=List.count_le_length (a:=(120:UInt8)) (l:=mshape ws)
        have h3:=mshape_len ws
        omega
      have HNS:=hid' ((OwnN.nsl o2).kept hkA)
      obtain ⟨s2,hs2⟩:∃ s,s = bs (ws.getD 2 []):=⟨_,rfl⟩
      have hsz2:0 < s2.size:=by rw [hs2,bs_size]; rcases hmk with e | e <;> rw [e] <;> decide
      have hsz2':(0:Int) < (s2.size:Int):=by omega
      have HQ:=hid' (show s2[0] = (ws.getD 2 []).getD 0 0 from head_of hsz2 hs2)
      have HPN:=hid' hpn
      have HS2:=hid' hs2
      clear hs2 hmk hpo o1 o2 o3 hpn
      go_upto_region 6 with fail
      have hPr:=RowL.alloc 50 w3 [.slice a1 p.nodes.length k1,.string (bs p.name),.slice a2 p.nums.length k2,.slice a3 p.steps.length k3]
      generalize w3.alloc (.cells #[.slice a1 p.nodes.length k1,.string (bs p.name),.slice a2 p.nums.length k2,.slice a3 p.steps.length k3] 50) = W3 at hkA HNS hPr ⊢
      obtain ⟨pp,hpp⟩:∃ q,q = w3.heap.size:=⟨_,rfl⟩
      rw [<- hpp] at hPr ⊢
      have HKA:=hid' (And.intro hkA hPr)
      obtain ⟨s1,hs1⟩:∃ s,s = bs p.name:=⟨_,rfl⟩
      have hmo:∀ V (K:Kept W3 V),_:=fun V K => modelOf_any (s2[0].toNat:Int) p a1 a2 a3 p.nodes.length k1 p.nums.length k2 p.steps.length k3 V (HNS.out.kept K) hnl
      rw [<- hs1] at hmo HKA ⊢
      have HS1:=hid' hs1
      obtain ⟨M,hM⟩:∃ M,M = gvAll 0 [] [] p.nums:=⟨_,rfl⟩
      rw [<- hM] at hmo
      have HMM:=hid' hM
      clear hpp hPr hkA hs1 hM
      go_cut [6] (fun v6 wc => ∃ mb,v6 = .pointer (some ⟨mb,0,none⟩)/\Hid (Kept W3 wc/\W3.heap.size<=mb/\∃ gv vv,Row4 45 wc mb (.string s1) (.int .u8 (s2[0].toNat:Int)) gv vv/\OwnN W3.heap.size wc gv M.1/\OwnN W3.heap.size wc vv M.2))
      case first =>
        have sS:=hid' (fun (V:World) (K:Kept W3 V) => And.intro (show V.cell? ⟨b,off + 2,none⟩ = some (.string s2) from (Below.cell (HK3.out.trans (HKA.out.1.trans K)) (p:=⟨b,off + 2,none⟩) HBL.out).trans (by have:=ck.out.2 2 (by omega); rw [HS2.out]; exact this)) (And.intro ((HKA.out.2.kept K).cell 0 (.slice a1 p.nodes.length k1)) (And.intro ((HKA.out.2.kept K).cell 1 (.string s1)) (And.intro ((HKA.out.2.kept K).cell 2 (.slice a2 p.nums.length k2)) ((HKA.out.2.kept K).cell 3 (.slice a3 p.steps.length k3))))))
        have KT:Kept W3 W3.drew:=(Kept.refl _).drew
        refine wp_region_held_drew (S:=fun w' => w'.cell? ⟨b,off + 2,none⟩ = some (.string s2)/\w'.cell? ⟨pp,0,none⟩ = some (.slice a1 p.nodes.length k1)/\w'.cell? ⟨pp,1,none⟩ = some (.string s1)/\w'.cell? ⟨pp,2,none⟩ = some (.slice a2 p.nums.length k2)/\w'.cell? ⟨pp,3,none⟩ = some (.slice a3 p.steps.length k3)) (by kernel_rfl) (sS.out _ KT) (fun hHeld => ?_)
        generalize W3.drew = Wd at KT hHeld ⊢
        refine tk 0 hHeld ?_
        refine tk 1 hHeld ?_
        refine tk 2 hHeld ?_
        refine tk 3 hHeld ?_
        refine tk 4 hHeld ?_
        refine wpAnyH_ready (rs:=[5,6]) (by kernel_rfl) (by simp) ?_
        refine AllReadyH.cons rfl (fun K hK => ?_) (AllReadyH.cons rfl (fun K hK => ?_) AllReadyH.nil)
        · go_simp
          refine (hmo _ KT).mono ?_
          rintro e w4 ⟨hk4,gv,vv,rfl,o1,o2⟩
          obtain ⟨b1,k4,rfl⟩:=own_shape o1
          obtain ⟨b2,k5,rfl⟩:=own_shape o2
          obtain ⟨n1,hn1⟩:∃ x,x = M.1.length:=⟨_,rfl⟩
          obtain ⟨n2,hn2⟩:∃ x,x = M.2.length:=⟨_,rfl⟩
          rw [<- hn1] at o1 ⊢
          rw [<- hn2] at o2 ⊢
          have o1:OwnN W3.heap.size w4 (.slice b1 n1 k4) M.1:=own_mono o1 KT.size
          have o2:OwnN W3.heap.size w4 (.slice b2 n2 k5) M.2:=own_mono o2 KT.size
          have KT:=KT.trans hk4
          refine hK.out _ _ (sS.out _ KT) (fun hHeld => ?_)
          clear hK K hk4 hn1 hn2
          refine rdy 6 fun K hK => ?_
          go_simp
          refine hK.out _ _ (sS.out _ (KT.alloc _)) (fun hHeld => ?_)
          clear hK K
          have hN:=Row4.alloc 45 w4 (.string ⟨#[]⟩) (.int .u8 0) (.slice none 0 0) (.slice none 0 0)
          have hle:=KT.size
          have o1:=own_keptK o1 ((Kept.refl w4).alloc (.cells #[.string ⟨#[]⟩,.int .u8 0,.slice none 0 0,.slice none 0 0] 45))
          have o2:=own_keptK o2 ((Kept.refl w4).alloc (.cells #[.string ⟨#[]⟩,.int .u8 0,.slice none 0 0,.slice none 0 0] 45))
          have KT:=KT.alloc (.cells #[.string ⟨#[]⟩,.int .u8 0,.slice none 0 0,.slice none 0 0] 45)
          generalize w4.alloc (.cells #[.string ⟨#[]⟩,.int .u8 0,.slice none 0 0,.slice none 0 0] 45) = W4 at hN KT o1 o2 hHeld ⊢
          obtain ⟨mb,hmb⟩:∃ q,q = w4.heap.size:=⟨_,rfl⟩
          rw [<- hmb] at hN hle ⊢
          clear hmb
          have f0:=hN.c0
          have f1:=hN.c1
          have f2:=hN.c2
          have f3:=hN.c3
          have z:=World.rowIs.frozen hN
          have hKF:=kept_put4 KT hle (.string s1) (.int .u8 (s2[0].toNat:Int)) (.slice b1 n1 k4) (.slice b2 n2 k5)
          have HNc:=hid' (sS.out _ hKF)
          have HFI:=hid' (And.intro hKF (And.intro hle (md_store hN o1 o2 (x0:=.string s1) (x1:=.int .u8 (s2[0].toNat:Int)))))
          clear hN o1 o2 hKF
          refine rdy 7 fun K hK => ?_
          go_simp
          refine hK.out _ _ HNc.out (fun hHeld => ?_)
          clear hK K f0 f1 f2 f3 z
          refine dn ?_
          go_wp2_with fail
          go_meet
          case rel => exact ⟨mb,rfl,HFI.out.1,HFI.out.2.1,_,_,HFI.out.2.2⟩
        · go_simp
          refine hK.out _ _ (sS.out _ (KT.alloc _)) (fun hHeld => ?_)
          clear hK K
          have hN:=Row4.alloc 45 Wd (.string ⟨#[]⟩) (.int .u8 0) (.slice none 0 0) (.slice none 0 0)
          have hle:=KT.size
          have KT:=KT.alloc (.cells #[.string ⟨#[]⟩,.int .u8 0,.slice none 0 0,.slice none 0 0] 45)
          generalize Wd.alloc (.cells #[.string ⟨#[]⟩,.int .u8 0,.slice none 0 0,.slice none 0 0] 45) = W1 at hN KT hHeld ⊢
          obtain ⟨mb,hmb⟩:∃ q,q = Wd.heap.size:=⟨_,rfl⟩
          rw [<- hmb] at hN hle ⊢
          clear hmb
          refine rdy 5 fun K hK => ?_
          go_simp
          refine (hmo _ KT).mono ?_
          rintro e w4 ⟨hk4,gv,vv,rfl,o1,o2⟩
          obtain ⟨b1,k4,rfl⟩:=own_shape o1
          obtain ⟨b2,k5,rfl⟩:=own_shape o2
          obtain ⟨n1,hn1⟩:∃ x,x = M.1.length:=⟨_,rfl⟩
          obtain ⟨n2,hn2⟩:∃ x,x = M.2.length:=⟨_,rfl⟩
          rw [<- hn1] at o1 ⊢
          rw [<- hn2] at o2 ⊢
          have o1:OwnN W3.heap.size w4 (.slice b1 n1 k4) M.1:=own_mono o1 KT.size
          have o2:OwnN W3.heap.size w4 (.slice b2 n2 k5) M.2:=own_mono o2 KT.size
          have KT:=KT.trans hk4
          have hN:=hN.kept hk4
          refine hK.out _ _ (sS.out _ KT) (fun hHeld => ?_)
          clear hK K hk4 hn1 hn2
          have f0:=hN.c0
          have f1:=hN.c1
          have f2:=hN.c2
          have f3:=hN.c3
          have z:=World.rowIs.frozen hN
          have hKF:=kept_put4 KT hle (.string s1) (.int .u8 (s2[0].toNat:Int)) (.slice b1 n1 k4) (.slice b2 n2 k5)
          have HNc:=hid' (sS.out _ hKF)
          have HFI:=hid' (And.intro hKF (And.intro hle (md_store hN o1 o2 (x0:=.string s1) (x1:=.int .u8 (s2[0].toNat:Int)))))
          clear hN o1 o2 hKF
          refine rdy 7 fun K hK => ?_
          go_simp
          refine hK.out _ _ HNc.out (fun hHeld => ?_)
          clear hK K f0 f1 f2 f3 z
          refine dn ?_
          go_wp2_with fail
          go_meet
          case rel => exact ⟨mb,rfl,HFI.out.1,HFI.out.2.1,_,_,HFI.out.2.2⟩
      case rest =>
        obtain ⟨mb,rfl,HC⟩:=hcut
        obtain ⟨gv,vv,hRm,o1,o2⟩:=HC.out.2.2
        obtain ⟨b1,k4,rfl⟩:=own_shape o1
        obtain ⟨b2,k5,rfl⟩:=own_shape o2
        have m0:=hRm.c0
        have m1:=hRm.c1
        have m2:=hRm.c2
        have m3:=hRm.c3
        have HRm:=hid' (And.intro hRm (And.intro o1 o2))
        clear hRm
        have hva:=validM_any s1 (s2[0].toNat:Int) b1 b2 M.1.length k4 M.2.length k5 M.1 M.2 wc (by rw [HS1.out,bs_size]; have:=HPN.out; omega) (OwnN.nsl o1) (OwnN.nsl o2) (by have:=(gv_len p.nums 0 [] []).1; rw [<- HMM.out] at this; simp at this; omega) (by have:=(gv_len p.nums 0 [] []).2; rw [<- HMM.out] at this; simp at this; omega)
        clear o1 o2
        go_wp2_with fail
        refine hva.mono ?_
        rintro e w5 ⟨hk5,rfl⟩
        clear hva
        have HRF:=hid' (show r = if okM s1.data.toList (s2[0].toNat:Int) M.1 M.2 = true then .ok ⟨p.name,(s2[0].toNat:Int),M.1,M.2⟩ else .error 50 by
          rw [HRn.out]
          show endM (modelS _ p) = _
          unfold endM modelS
          rw [<- HQ.out,<- HMM.out,HS1.out,bs_list])
        have hK5:=HK3.out.trans (HKA.out.1.trans (HC.out.1.trans hk5))
        have hZ3:=HZ.out.kept (HKA.out.1.trans (HC.out.1.trans hk5))
        have hM5:=HRm.out.1.kept hk5
        have o1:=own_keptK HRm.out.2.1 hk5
        have o2:=own_keptK HRm.out.2.2 hk5
        have HF:=hid' (And.intro hZ3 (And.intro o1 (And.intro o2 hK5)))
        have hne:¬ rb = mb:=by have h1:=HZ.out.lt; have h2:=HC.out.2.1; have h3:=HKA.out.1.size; omega
        have hne':¬ mb = rb:=fun e => hne e.symm
        have d0:=hZ3.c0
        have d1:=hZ3.c1
        have d2:=hZ3.c2
        have d3:=hZ3.c3
        have zd:=World.rowIs.frozen hZ3
        have m0:=hM5.c0
        have m1:=hM5.c1
        have m2:=hM5.c2
        have m3:=hM5.c3
        have HB3:=hid' (show w.heap.size<=W3.heap.size from (HK3.out.trans HKA.out.1).size)
        clear hZ3 hM5 o1 o2 hK5 hk5
        generalize hok:okM s1.data.toList (s2[0].toNat:Int) M.1 M.2 = ok at HRF ⊢
        cases ok
        · go_wp2_with fail
          refine bodyPost_ret (v:=.tuple #[.agg #[.string ⟨#[]⟩,.int .u8 0,.slice none 0 0,.slice none 0 0],.int .i64 50]) (by simp [results,Tryz.results12,go_sem,d0,d1,d2,d3]) rfl ⟨?_,?_⟩
          · exact kept_put4 HF.out.2.2.2 (Nat.le_of_eq HRB.out.symm) _ _ _ _
          · rw [HRF.out]
            exact ⟨rfl,by decide⟩
        · go_wp2_with fail
          refine bodyPost_ret (v:=.tuple #[.agg #[.string s1,.int .u8 (s2[0].toNat:Int),.slice b1 M.1.length k4,.slice b2 M.2.length k5],.int .i64 0]) (by simp [results,Tryz.results12,go_sem,d0,d1,d2,d3]) rfl ⟨?_,?_⟩
          · exact kept_put4 HF.out.2.2.2 (Nat.le_of_eq HRB.out.symm) _ _ _ _
          · rw [HRF.out]
            have hst:=md_store (x0:=.string s1) (x1:=.int .u8 (s2[0].toNat:Int)) HF.out.1 HF.out.2.1 HF.out.2.2.1
            exact ⟨_,rfl,_,_,by rw [HS1.out],own_mono hst.2.1 HB3.out,own_mono hst.2.2 HB3.out⟩
  · have bm:(s0.toList == [46,109,111,100,101,108]) = false:=by rw [hx1]; simpa using hm
    have HE:=hid' (show r = .error 70 by rw [HR.out]; unfold readM; rw [if_pos (.inr hm)])
    clear hs0e hn hx1 hm
    go_enter Tryz.func12,Tryz.ntmps12
    go_wp2_with fail
    refine bodyPost_ret (v:=.tuple #[.agg #[.string ⟨#[]⟩,.int .u8 0,.slice none 0 0,.slice none 0 0],.int .i64 70]) (by simp [results,Tryz.results12,go_sem]) rfl ⟨?_,?_⟩
    · exact (Kept.refl w).alloc _
    · rw [HE.out]
      exact ⟨rfl,by decide⟩
open Q (hid')
open X (bs OwnS RS strs bs_list bs_size)
def Room (w:World) (g n:Nat):Prop:=∀ j,j < n->(∃ u,w.cell? ⟨g,j,none⟩ = some u)/\w.frozen? ⟨g,j,none⟩ = false
theorem Room.set {w:World} {g n q i:Nat} {v:Value} (h:Room w g n):Room (w.setCell ⟨q,i,none⟩ v) g n:=by
 intro j hj
 obtain ⟨⟨u,hu⟩,hf⟩:=h j hj
 refine ⟨?_,by rw [World.frozen?_setCell]; exact hf⟩
 by_cases e:(⟨q,i,none⟩:Addr) = ⟨g,j,none⟩
 ·
  rw [e]; exact ⟨v,World.cell?_setCell_same _ _ _ hu⟩
 ·
  exact ⟨u,by rw [World.cell?_setCell_other _ _ _ _ e]; exact hu⟩
theorem Room.block {w w':World} {g n:Nat} (h:Room w g n) (k:w'.heap[g]? = w.heap[g]?):Room w' g n:=by
 intro j hj
 obtain ⟨⟨u,hu⟩,hf⟩:=h j hj
 exact ⟨⟨u,(World.cell?_of_block (a:=⟨g,j,none⟩) k).trans hu⟩,(World.frozen?_of_block (a:=⟨g,j,none⟩) k).trans hf⟩
def Mine (B H:Nat) (w:World) (ao:Option Addr) (n:Nat):Prop:=0 < n->∃ g,ao = some ⟨g,0,none⟩/\B<=g/\g < H/\Room w g n
theorem own_mine {B H:Nat} {w:World} {e:TypeId} {sz n:Nat} {ao:Option Addr} {n' cap:Nat} {xs:List Value} (h:w.ownsRow B e sz (.slice ao n' cap) n xs) (hH:∀ b,(Value.slice ao n' cap).ownBlock = some b->b < H):Mine B H w ao (n * sz):=by
 intro h0
 have hn:0 < n:=Nat.pos_of_mul_pos_right h0
 obtain ⟨g,cap,e,hB,hg,hc,hcell,hf⟩:=own_cell h hn
 simp only [Value.slice.injEq] at e
 obtain ⟨rfl,rfl,rfl⟩:=e
 refine ⟨g,rfl,hB,hH g rfl,fun j hj => ⟨?_,hf j⟩⟩
 have hl:xs.length = n' * sz:=h.1
 exact ⟨_,hcell j _ (List.getElem?_eq_getElem (by omega))⟩
structure SpI (B H:Nat) (w wr:World) (pb:Nat) (row:List Value):Prop where
 be:Below B w wr
 up:∀ b,H<=b->b < w.heap.size->wr.heap[b]? = w.heap[b]?
 row:RowL 32 wr pb row
 le:w.heap.size<=pb
theorem SpI.put {B H:Nat} {w wr:World} {pb:Nat} {row:List Value} (h:SpI B H w wr pb row) {g:Nat} (h1:B<=g) (h2:g < H) (h3:H<=w.heap.size) (i:Nat) (v:Value):SpI B H w (wr.setCell ⟨g,i,none⟩ v) pb row :=
 ⟨h.be.setCell (p:=⟨g,i,none⟩) h1 _,fun b hb hl => (Deep.blk_setCell_other _ ⟨g,i,none⟩ _ b (by show b ≠ g; omega)).trans (h.up b hb hl),h.row.far (by have:=h.le; omega) _ _,h.le⟩
set_option maxRecDepth 100000 in
set_option maxHeartbeats 8000000 in
theorem spoil7_any (B H:Nat) (s1 s3:ByteArray) (cm cx ck:Int) (a1 a2 a3:Option Addr) (n1 k1 n2 k2 n3 k3:Nat) (w:World) (hB:B<=w.heap.size) (hH:H<=w.heap.size) (h1:Mine B H w a1 n1) (h2:Mine B H w a2 (n2 * 2)) (h3:Mine B H w a3 n3) (hn:n1<=4611686018427387903) (hm:n2<=4611686018427387903) (ho:n3<=4611686018427387903) :
  Calls Tryz.prog 10 #[.agg #[.string s1,.slice a1 n1 k1,.string s3,.int .i64 cm,.int .i64 cx,.int .i64 ck,.slice a2 n2 k2,.slice a3 n3 k3]] w fun e w' => e = .returned (.tuple #[])/\Below B w w'/\∀ b,H<=b->b < w.heap.size->w'.heap[b]? = w.heap[b]?:=by
 have H1:=hid' h1
 have H2:=hid' h2
 have H3:=hid' h3
 have HB:=hid' (And.intro hB hH)
 clear h1 h2 h3 hB hH
 have kA:=(Below.refl B w).alloc HB.out.1 (.cells #[.string s1,.slice a1 n1 k1,.string s3,.int .i64 cm,.int .i64 cx,.int .i64 ck,.slice a2 n2 k2,.slice a3 n3 k3] 32)
 have kK:=(Kept.refl w).alloc (.cells #[.string s1,.slice a1 n1 k1,.string s3,.int .i64 cm,.int .i64 cx,.int .i64 ck,.slice a2 n2 k2,.slice a3 n3 k3] 32)
 have hA:=RowL.alloc 32 w [.string s1,.slice a1 n1 k1,.string s3,.int .i64 cm,.int .i64 cx,.int .i64 ck,.slice a2 n2 k2,.slice a3 n3 k3]
 go_enter Tryz.func10,Tryz.ntmps10
 go_upto_region 1 with fail
 generalize w.alloc (.cells #[.string s1,.slice a1 n1 k1,.string s3,.int .i64 cm,.int .i64 cx,.int .i64 ck,.slice a2 n2 k2,.slice a3 n3 k3] 32) = W0 at kA kK hA ⊢
 obtain ⟨pb,hpb⟩:∃ q,q = w.heap.size:=⟨_,rfl⟩
 rw [<- hpb] at hA ⊢
 have HPB:=hid' hpb
 have HI:Hid (SpI B H w W0 pb [.string s1,.slice a1 n1 k1,.string s3,.int .i64 cm,.int .i64 cx,.int .i64 ck,.slice a2 n2 k2,.slice a3 n3 k3]):=⟨kA,fun b _ hl => kK.block b hl,hA,by rw [hpb]; exact Nat.le_refl _⟩
 have M1:Hid (0 < n1->∃ g,a1 = some ⟨g,0,none⟩/\B<=g/\g < H/\Room W0 g n1):=fun h0 => by
  obtain ⟨g,e,h4,h5,h6⟩:=H1.out h0
  exact ⟨g,e,h4,h5,h6.block (kK.block g (by have:=HB.out.2; omega))⟩
 have M2:Hid (0 < n2 * 2->∃ g,a2 = some ⟨g,0,none⟩/\B<=g/\g < H/\Room W0 g (n2 * 2)):=fun h0 => by
  obtain ⟨g,e,h4,h5,h6⟩:=H2.out h0
  exact ⟨g,e,h4,h5,h6.block (kK.block g (by have:=HB.out.2; omega))⟩
 have M3:Hid (0 < n3->∃ g,a3 = some ⟨g,0,none⟩/\B<=g/\g < H/\Room W0 g n3):=fun h0 => by
  obtain ⟨g,e,h4,h5,h6⟩:=H3.out h0
  exact ⟨g,e,h4,h5,h6.block (kK.block g (by have:=HB.out.2; omega))⟩
 clear kA kK hA hpb H1 H2 H3
 have f1:=HI.out.row.cell 1 (.slice a1 n1 k1)
 go_wp2_with fail
 go_loopw [8] (fun vi wr => ∃ (i:Nat),i<=n1/\vi = .int .i64 (i:Int)/\Hid (SpI B H w wr pb [.string s1,.slice a1 n1 k1,.string s3,.int .i64 cm,.int .i64 cx,.int .i64 ck,.slice a2 n2 k2,.slice a3 n3 k3])/\Hid ((0 < n1->∃ g,a1 = some ⟨g,0,none⟩/\B<=g/\g < H/\Room wr g n1)/\(0 < n2 * 2->∃ g,a2 = some ⟨g,0,none⟩/\B<=g/\g < H/\Room wr g (n2 * 2))/\(0 < n3->∃ g,a3 = some ⟨g,0,none⟩/\B<=g/\g < H/\Room wr g n3))) (fun vi _ => n1 - (intOf vi).toNat)
 case atStart => exact ⟨0,Nat.zero_le _,rfl,HI.out,M1.out,M2.out,M3.out⟩
 case round =>
  obtain ⟨i,hi,rfl,HS,HM⟩:=hrel
  clear HI M1 M2 M3 f1
  by_cases hit:i < n1
  ·
   --%A
   have hii:(i:Int) < (n1:Int):=by omega
   have hi0:(0:Int)<=(i:Int):=by omega
   obtain ⟨g,hg,hgB,hgH,hgr⟩:=HM.out.1 (by omega)
   subst hg
   obtain ⟨⟨u,hu⟩,hf⟩:=hgr i hit
   have f1:=HS.out.row.cell 1 (.slice (some ⟨g,0,none⟩) n1 k1)
   have HN:=hid' (HS.out.put hgB hgH HB.out.2 i (.string ⟨#[63]⟩))
   have HM2:=hid' (show (0 < n1->∃ g',(some ⟨g,0,none⟩:Option Addr) = some ⟨g',0,none⟩/\B<=g'/\g' < H/\Room (wr.setCell ⟨g,i,none⟩ (.string ⟨#[63]⟩)) g' n1)/\(0 < n2 * 2->∃ g',a2 = some ⟨g',0,none⟩/\B<=g'/\g' < H/\Room (wr.setCell ⟨g,i,none⟩ (.string ⟨#[63]⟩)) g' (n2 * 2))/\(0 < n3->∃ g',a3 = some ⟨g',0,none⟩/\B<=g'/\g' < H/\Room (wr.setCell ⟨g,i,none⟩ (.string ⟨#[63]⟩)) g' n3) from
    ⟨fun h => by obtain ⟨g',e,p,q,r⟩:=HM.out.1 h; exact ⟨g',e,p,q,r.set⟩,fun h => by obtain ⟨g',e,p,q,r⟩:=HM.out.2.1 h; exact ⟨g',e,p,q,r.set⟩,fun h => by obtain ⟨g',e,p,q,r⟩:=HM.out.2.2 h; exact ⟨g',e,p,q,r.set⟩⟩)
   clear hgr
   go_wp2_with fail
   go_roundw
   case rel => exact ⟨i + 1,by omega,by go_num,HN.out,HM2.out⟩
   case measure => show n1 - ((i:Int) + 1).toNat < n1 - (i:Int).toNat; omega
  ·
   --%B
   have hii:¬ (i:Int) < (n1:Int):=by omega
   have f2:=HS.out.row.cell 6 (.slice a2 n2 k2)
   have HI:=HS
   have HMM:=HM
   clear HS HM hit
   go_wp2_with fail
   go_loopw [20] (fun vi wr => ∃ (i:Nat),i<=n2/\vi = .int .i64 (i:Int)/\Hid (SpI B H w wr pb [.string s1,.slice a1 n1 k1,.string s3,.int .i64 cm,.int .i64 cx,.int .i64 ck,.slice a2 n2 k2,.slice a3 n3 k3])/\Hid ((0 < n2 * 2->∃ g,a2 = some ⟨g,0,none⟩/\B<=g/\g < H/\Room wr g (n2 * 2))/\(0 < n3->∃ g,a3 = some ⟨g,0,none⟩/\B<=g/\g < H/\Room wr g n3))) (fun vi _ => n2 - (intOf vi).toNat)
   case atStart => exact ⟨0,Nat.zero_le _,rfl,HI.out,HMM.out.2⟩
   case round =>
    clear f2 HI HMM hii hi
    obtain ⟨i,hi,rfl,HS,HM⟩:=hrel
    by_cases hit:i < n2
    ·
     --%C
     have hii:(i:Int) < (n2:Int):=by omega
     have hi0:(0:Int)<=(i:Int):=by omega
     obtain ⟨g,hg,hgB,hgH,hgr⟩:=HM.out.1 (by omega)
     subst hg
     obtain ⟨⟨u,hu⟩,hf⟩:=hgr (i * 2) (by omega)
     obtain ⟨⟨u',hu'⟩,hf'⟩:=hgr (i * 2 + 1) (by omega)
     have f1:=HS.out.row.cell 6 (.slice (some ⟨g,0,none⟩) n2 k2)
     have HN:=hid' ((HS.out.put hgB hgH HB.out.2 (i * 2) (.int .i64 99)).put hgB hgH HB.out.2 (i * 2 + 1) (.int .i64 0))
     have HM2:=hid' (show (0 < n2 * 2->∃ g',(some ⟨g,0,none⟩:Option Addr) = some ⟨g',0,none⟩/\B<=g'/\g' < H/\Room ((wr.setCell ⟨g,i * 2,none⟩ (.int .i64 99)).setCell ⟨g,i * 2 + 1,none⟩ (.int .i64 0)) g' (n2 * 2))/\(0 < n3->∃ g',a3 = some ⟨g',0,none⟩/\B<=g'/\g' < H/\Room ((wr.setCell ⟨g,i * 2,none⟩ (.int .i64 99)).setCell ⟨g,i * 2 + 1,none⟩ (.int .i64 0)) g' n3) from
      ⟨fun h => by obtain ⟨g',e,p,q,r⟩:=HM.out.1 h; exact ⟨g',e,p,q,r.set.set⟩,fun h => by obtain ⟨g',e,p,q,r⟩:=HM.out.2 h; exact ⟨g',e,p,q,r.set.set⟩⟩)
     clear hgr
     go_wp2_with fail
     go_roundw
     case rel => exact ⟨i + 1,by omega,by go_num,HN.out,HM2.out⟩
     case measure => show n2 - ((i:Int) + 1).toNat < n2 - (i:Int).toNat; omega
    ·
     --%D
     have hii:¬ (i:Int) < (n2:Int):=by omega
     have f3:=HS.out.row.cell 7 (.slice a3 n3 k3)
     have HI:=HS
     have HMM:=HM
     clear HS HM hit
     go_wp2_with fail
     go_loopw [34] (fun vi wr => ∃ (i:Nat),i<=n3/\vi = .int .i64 (i:Int)/\Hid (SpI B H w wr pb [.string s1,.slice a1 n1 k1,.string s3,.int .i64 cm,.int .i64 cx,.int .i64 ck,.slice a2 n2 k2,.slice a3 n3 k3])/\Hid (0 < n3->∃ g,a3 = some ⟨g,0,none⟩/\B<=g/\g < H/\Room wr g n3)) (fun vi _ => n3 - (intOf vi).toNat)
     case atStart => exact ⟨0,Nat.zero_le _,rfl,HI.out,HMM.out.2⟩
     case round =>
      clear f3 HI HMM hii hi
      obtain ⟨i,hi,rfl,HS,HM⟩:=hrel
      by_cases hit:i < n3
      ·
       --%E
       have hii:(i:Int) < (n3:Int):=by omega
       have hi0:(0:Int)<=(i:Int):=by omega
       obtain ⟨g,hg,hgB,hgH,hgr⟩:=HM.out (by omega)
       subst hg
       obtain ⟨⟨u,hu⟩,hf⟩:=hgr i hit
       have f1:=HS.out.row.cell 7 (.slice (some ⟨g,0,none⟩) n3 k3)
       have HN:=hid' (HS.out.put hgB hgH HB.out.2 i (.int .i64 (-9)))
       have HM2:=hid' (show 0 < n3->∃ g',(some ⟨g,0,none⟩:Option Addr) = some ⟨g',0,none⟩/\B<=g'/\g' < H/\Room (wr.setCell ⟨g,i,none⟩ (.int .i64 (-9))) g' n3 from fun h => by obtain ⟨g',e,p,q,r⟩:=HM.out h; exact ⟨g',e,p,q,r.set⟩)
       clear hgr
       go_wp2_with fail
       go_roundw
       case rel => exact ⟨i + 1,by omega,by go_num,HN.out,HM2.out⟩
       case measure => show n3 - ((i:Int) + 1).toNat < n3 - (i:Int).toNat; omega
      ·
       --%F
       have hii:¬ (i:Int) < (n3:Int):=by omega
       go_wp2_with fail
       exact bodyPost_end (v:=.tuple #[]) (by simp [results,Tryz.results10,go_sem]) rfl ⟨rfl,HS.out.be,HS.out.up⟩
end V
end Go.Proofs.YtihnknnddldgiaaGreatDoor

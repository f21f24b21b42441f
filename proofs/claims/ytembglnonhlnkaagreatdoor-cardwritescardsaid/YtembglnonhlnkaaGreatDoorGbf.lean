/- What is read is a right card, and writes out as itself. Right cards, as shuntref07 looks at them. shuntref07.Right of a diode. shuntref07.Right of a switch. shuntref07.Right of a source that is steered. shuntref07.Right of a source. shuntref07.Right of r, c, l. shuntref07.Right of f, h. shuntref07.Right of x. shuntref07.Right of what is wrong at once. shuntref07.Right. shuntref07.Same of two that are the same. -/
import Derived.Test.YtembglnonhlnkaaGreatDoorGbe
import Derived.Test.YtembglnonhlnkaaGreatDoorGau
import Derived.Test.YtembglnonhlnkaaGreatDoorGat
namespace Go.Proofs.YtembglnonhlnkaaGreatDoor
open Go.RowKit
namespace V
open Q (parseOf okN textOf)
theorem shape_facts {q:UInt8} (ws:List (List UInt8)) (hk:q ∈ kindsL) :
  nodesN q ((cshape q ws).count 110) = true∧(refC q = true→109 ∈ cshape q ws ∨ 118 ∈ cshape q ws)∧(refC q = false→109 ∉ cshape q ws∧118 ∉ cshape q ws)∧(q = 102 ∨ q = 104→118 ∈ cshape q ws∧109 ∉ cshape q ws):=by
 unfold kindsL at hk
 simp only [List.mem_cons,List.not_mem_nil,or_false] at hk
 have hw0:=List.count_eq_zero.2 (wshape_no (ws.drop 3) 110 (.inl rfl))
 have hw1:=wshape_no (ws.drop 3) 109 (.inr (.inl rfl))
 have hw2:=wshape_no (ws.drop 3) 118 (.inr (.inr rfl))
 rcases hk with rfl | rfl | rfl | rfl | rfl | rfl | rfl | rfl | rfl | rfl | rfl | rfl | rfl
 ·
  simp [cshape,nodesN,refC]
 ·
  simp [cshape,nodesN,refC]
 ·
  simp [cshape,nodesN,refC]
 ·
  simp [cshape,nodesN,refC,hw0,hw1,hw2]
 ·
  simp [cshape,nodesN,refC,hw0,hw1,hw2]
 ·
  simp [cshape,nodesN,refC]
 ·
  simp [cshape,nodesN,refC]
 ·
  simp [cshape,nodesN,refC]
 ·
  simp [cshape,nodesN,refC]
 ·
  simp [cshape,nodesN,refC]
 ·
  simp [cshape,nodesN,refC]
 ·
  simp [cshape,nodesN,refC]
 ·
  refine ⟨?_,fun _ => .inl (by simp [cshape]),fun h => absurd h (by decide),fun h => absurd h (by decide)⟩
  have e:(cshape 120 ws).count 110 = min (max (ws.length - 2) 1) 8:=by
   unfold cshape
   rw [if_neg (by decide),if_neg (by decide),if_neg (by decide),if_neg (by decide),if_neg (by decide),if_pos rfl,rep_one]
   simp [List.count_append]
  rw [e]
  unfold nodesN
  rw [if_neg (by decide),if_pos rfl]
  exact decide_eq_true (by omega)
theorem read_right {ws:List (List UInt8)} {d:Cd} (h:readC ws = .ok d):RightC d∧d.name = ws.getD 0 []∧ws ≠ []:=by
 unfold readC at h
 split at h
 ·
  cases h
 rename_i hn
 have hne:ws ≠ []:=fun e => hn (.inl e)
 have hdv:devB (ws.getD 0 []) = true:=by
  cases e:devB (ws.getD 0 []) with
  | true => rfl
  | false => exact absurd (.inr e) hn
 have hk:=dev_kind hdv
 obtain ⟨q,hq⟩:∃ q,q = headC ws:=⟨_,rfl⟩
 have hq':(ws.getD 0 []).getD 0 0 = q:=hq.symm
 rw [hq'] at hk
 rw [← hq] at h
 cases hp:partsOf ws (cshape q ws) with
 | error e => simp only [hp] at h; cases h
 | ok p =>
  simp only [hp] at h
  obtain ⟨p1,p2,p3,p4,p5,p6,p7⟩:=parts_inv hp
  obtain ⟨s1,s2,s3,s4⟩:=shape_facts ws hk
  have hd:cardS ws p = d∧¬ (zeroC ((cardS ws p).name.getD 0 0) = true∧(cardS ws p).val = (0,0))∧¬ (waveC ((cardS ws p).name.getD 0 0) = true∧okW (cardS ws p).kind (cardS ws p).vals (cardS ws p).steps = false):=by
   unfold endC at h
   split at h
   ·
    cases h
   split at h
   ·
    cases h
   ·
    rename_i a b
    cases h
    exact ⟨rfl,a,b⟩
  obtain ⟨rfl,hz,hw⟩:=hd
  have hnm:(cardS ws p).name = ws.getD 0 []:=by
   unfold cardS
   split
   ·
    rfl
   split <;> rfl
  have hnd:(cardS ws p).nodes = p.nodes:=by
   unfold cardS
   split
   ·
    rfl
   split <;> rfl
  have hrf:(cardS ws p).ref = p.name:=by
   unfold cardS
   split
   ·
    rfl
   split <;> rfl
  rw [hnm,hq'] at hz hw
  refine ⟨⟨by rw [hnm]; exact hdv,?_,?_,?_,?_,?_⟩,hnm,hne⟩
  ·
   rw [hnm,hq',hnd,p1]; exact s1
  ·
   rw [hnd]; exact p2
  ·
   rw [hnm,hq',hrf]
   by_cases hr:refC q = true
   ·
    rw [if_pos hr]
    exact ⟨p4 (s2 hr),fun e => p5 (s4 e).1 (s4 e).2⟩
   ·
    rw [if_neg hr]
    have:=s3 (by simpa using hr)
    exact p3 this.1 this.2
  ·
   rw [hnm,hq']
   by_cases hv:valueC q = true
   ·
    rw [if_pos hv]
    have hnw:waveC q = false:=by
     unfold kindsL at hk
     simp only [List.mem_cons,List.not_mem_nil,or_false] at hk
     rcases hk with rfl | rfl | rfl | rfl | rfl | rfl | rfl | rfl | rfl | rfl | rfl | rfl | rfl <;> first | rfl | exact absurd hv (by decide)
    have hcv:(cardS ws p).val = p.nums.getD 0 (0,0):=by
     unfold cardS
     rw [← hq,if_neg (by rw [hnw]; decide),if_pos hv]
    have hl:0 < p.nums.length:=by rw [p6]; exact cshape_value ws hv
    have hok:okN (p.nums.getD 0 (0,0)).1 (p.nums.getD 0 (0,0)).2 = true:=by
     cases hnn:p.nums with
     | nil => rw [hnn] at hl; exact absurd hl (by decide)
     | cons v t => exact p7 v (by rw [hnn]; simp)
    rw [hcv] at hz ⊢
    refine ⟨hok,fun hzc h0 => hz ⟨hzc,?_⟩⟩
    have:=Q.okN_iff.1 hok
    have h1:(p.nums.getD 0 (0,0)).2 = 0:=by
     rcases this with e | e
     ·
      exact e.2
     ·
      exact absurd h0 e.1
    exact Prod.ext h0 h1
   ·
    rw [if_neg hv]
    unfold cardS
    rw [← hq]
    split <;> rfl
  ·
   rw [hnm,hq']
   by_cases hwv:waveC q = true
   ·
    rw [if_pos hwv]
    cases e:okW (cardS ws p).kind (cardS ws p).vals (cardS ws p).steps with
    | true => rfl
    | false => exact absurd ⟨hwv,e⟩ hw
   ·
    rw [if_neg hwv]
    unfold cardS
    rw [← hq,if_neg hwv]
    split <;> exact ⟨rfl,rfl,rfl⟩
theorem right_write {c:Cd} (h:RightC c):writeC c = some (cwords c):=by
 unfold writeC
 rw [if_pos h.dev,right_read c h]
 simp
theorem write_right {c:Cd} {ws:List (List UInt8)} (h:writeC c = some ws):RightC c∧ws = cwords c:=by
 unfold writeC at h
 split at h
 ·
  cases hr:readC (cwords c) with
  | error e => simp only [hr] at h; cases h
  | ok d =>
   simp only [hr] at h
   split at h
   ·
    rename_i e
    cases h
    exact ⟨e ▸ (read_right hr).1,rfl⟩
   ·
    cases h
 ·
  cases h
end V
end Go.Proofs.YtembglnonhlnkaaGreatDoor

namespace Go.Proofs.YtembglnonhlnkaaGreatDoor
open Go.RowKit
namespace V
open Q (parseOf okN textOf)
def tailB (c:Cd) (nodes:Nat) (ref value source:Bool):Bool :=
  decide (c.nodes.length = nodes) && (c.nodes.all okName && ((if ref = true then okName c.ref else decide (c.ref = [])) && ((if value = true then okN c.val.1 c.val.2 else decide (c.val = (0,0))) && (if source = true then okW c.kind c.vals c.steps else decide (c.kind = 0∧c.vals = []∧c.steps = [])))))
def rightB (c:Cd):Bool :=
  if devB c.name = false then false else
  if c.name.getD 0 0 = 114 ∨ c.name.getD 0 0 = 99 ∨ c.name.getD 0 0 = 108 then (if c.val.1 = 0 then false else tailB c 2 false true false)
  else if c.name.getD 0 0 = 101 ∨ c.name.getD 0 0 = 103 ∨ c.name.getD 0 0 = 116 then tailB c 4 false true false
  else if c.name.getD 0 0 = 102 ∨ c.name.getD 0 0 = 104 then (if c.ref.length = 0 ∨ c.ref.getD 0 0 ≠ 118 then false else tailB c 2 true true false)
  else if c.name.getD 0 0 = 100 then tailB c 2 true false false
  else if c.name.getD 0 0 = 115 then tailB c 4 true false false
  else if c.name.getD 0 0 = 120 then (if c.nodes.length < 1 ∨ 8 < c.nodes.length then false else tailB c c.nodes.length true false false)
  else tailB c 2 false false true
theorem name_ne {x:List UInt8} (h:okName x = true):x.length ≠ 0:=by
  unfold okName at h
  have:=of_decide_eq_true (Bool.and_eq_true _ _ ▸ h).1
  omega
theorem tail_iff (c:Cd) (nodes:Nat) (ref value source:Bool):tailB c nodes ref value source = true ↔ c.nodes.length = nodes∧(∀ x ∈ c.nodes,okName x = true)∧(if ref = true then okName c.ref = true else c.ref = [])∧(if value = true then okN c.val.1 c.val.2 = true else c.val = (0,0))∧(if source = true then okW c.kind c.vals c.steps = true else c.kind = 0∧c.vals = []∧c.steps = []):=by
  unfold tailB
  cases ref <;> cases value <;> cases source <;> simp [List.all_eq_true]
theorem right_iff (c:Cd):rightB c = true ↔ RightC c:=by
  by_cases hd:devB c.name = true
  · have hk:=dev_kind hd
    unfold kindsL at hk
    simp only [List.mem_cons,List.not_mem_nil,or_false] at hk
    have e0:∀ q:UInt8,c.name.getD 0 0 = q→(RightC c ↔ (nodesN q c.nodes.length = true∧(∀ x ∈ c.nodes,okName x = true)∧(if refC q = true then okName c.ref = true∧((q = 102 ∨ q = 104)→c.ref.getD 0 0 = 118) else c.ref = [])∧(if valueC q = true then okN c.val.1 c.val.2 = true∧(zeroC q = true→c.val.1 ≠ 0) else c.val = (0,0))∧(if waveC q = true then okW c.kind c.vals c.steps = true else c.kind = 0∧c.vals = []∧c.steps = []))):=by
      rintro q rfl
      exact ⟨fun h => ⟨h.cnt,h.nds,h.ref,h.val,h.wav⟩,fun ⟨a,b,d,e,f⟩ => ⟨hd,a,b,d,e,f⟩⟩
    have hn:okName c.ref = true→c.ref.length ≠ 0:=name_ne
    rcases hk with e | e | e | e | e | e | e | e | e | e | e | e | e <;> rw [e0 _ e] <;> unfold rightB <;> rw [e,if_neg (by rw [hd]; decide)]
    case inl | inr.inl | inr.inr.inl =>
      rw [if_pos (by decide)]
      by_cases hz:c.val.1 = 0
      · simp [hz,valueC,zeroC]
      · rw [if_neg hz,tail_iff]; simp [hz,nodesN,refC,valueC,waveC]
    all_goals rw [if_neg (by decide)]
    all_goals first
      | (rw [if_pos (by decide),tail_iff]; simp [nodesN,refC,valueC,waveC,zeroC]; done)
      | rw [if_neg (by decide)]
    all_goals first
      | (rw [if_pos (by decide)]
         by_cases hz:c.ref.length = 0 ∨ c.ref.getD 0 0 ≠ 118
         · rw [if_pos hz]
           simp only [nodesN,refC,valueC,waveC,zeroC]
           simp
           intro _ _ h1 h2
           rcases hz with hz | hz
           · exact absurd hz (hn h1)
           · exact absurd (by simpa using h2) hz
         · have hz':c.ref.getD 0 0 = 118:=by
             by_cases h:c.ref.getD 0 0 = 118
             · exact h
             · exact absurd (.inr h) hz
           rw [if_neg hz,tail_iff]
           simp only [hz']
           simp [nodesN,refC,valueC,waveC,zeroC])
      | rw [if_neg (by decide)]
    all_goals first
      | (rw [if_pos (by decide),tail_iff]; simp [nodesN,refC,valueC,waveC]; done)
      | rw [if_neg (by decide)]
    all_goals first
      | (rw [if_pos (by decide),tail_iff]; simp [nodesN,refC,valueC,waveC]; done)
      | rw [if_neg (by decide)]
    all_goals first
      | (rw [if_pos (by decide)]
         by_cases hz:c.nodes.length < 1 ∨ 8 < c.nodes.length
         · rw [if_pos hz]
           simp only [nodesN]
           simp
           intro h1 h2
           omega
         · rw [if_neg hz,tail_iff]
           have hz':1≤c.nodes.length∧c.nodes.length≤8:=by omega
           simp only [nodesN,hz'.1,hz'.2]
           simp [refC,valueC,waveC])
      | (rw [if_neg (by decide),tail_iff]; simp [nodesN,refC,valueC,waveC])
  · have hd':devB c.name = false:=by simpa using hd
    unfold rightB
    rw [if_pos hd']
    exact ⟨fun h => (by cases h),fun h => absurd h.dev hd⟩
end V
end Go.Proofs.YtembglnonhlnkaaGreatDoor

namespace Go.Proofs.YtembglnonhlnkaaGreatDoor
open Go.RowKit
namespace V
open Q (hid' parseOf okN textOf RValid_any)
open X (bs OwnS RS strs bs_list bs_size)
set_option maxRecDepth 100000 in
set_option maxHeartbeats 8000000 in
theorem right_l100 (a1 a2 a3:Option Addr) (n1 k1 n2 k2 n3 k3:Nat) (c:Cd) (w:World) (hc:CdR w a1 n1 k1 a2 n2 k2 a3 n3 k3 c) (hd:devB c.name = true) (hq:c.name.getD 0 0 = 100) (hs:c.name.length≤9223372036854775807) (hrs:c.ref.length≤9223372036854775807) (hnd:∀ x ∈ c.nodes,x.length≤9223372036854775807) (hn:n1≤1000000000000000000∧n2≤1000000000000000000∧n3≤1000000000000000000) :
  Calls Tryz.prog 28 #[cdV c (.slice a1 n1 k1) (.slice a2 n2 k2) (.slice a3 n3 k3)] w fun e w' => Kept w w'∧e = .returned (.bool (tailB c 2 true false false)):=by
 have HC:=hid' (And.intro hc (And.intro hs (And.intro hrs (And.intro hnd hn))))
 obtain ⟨r,hr⟩:∃ r,r = tailB c 2 true false false:=⟨_,rfl⟩
 rw [← hr]
 have HR:=hid' hr
 have hh:=dev_len hd
 have hdev:=fun V => rdev_any (bs c.name) V (by rw [bs_size]; exact hs)
 rw [bs_list,hd] at hdev
 have HLN:=hid' (show n1 = c.nodes.length∧n2 = c.vals.length∧n3 = c.steps.length by
  obtain ⟨_,_,e1,_⟩:=hc.nodes
  obtain ⟨_,_,e2,_⟩:=hc.vals
  obtain ⟨_,_,e3,_⟩:=hc.steps
  simp only [Value.slice.injEq] at e1 e2 e3
  omega)
 clear hr hc hs hrs hnd
 obtain ⟨cn,cnd,cr,⟨cm,cx⟩,ckd,cvs,css⟩:=c
 unfold cdV
 simp only at hdev hh hq hd ⊢
 obtain ⟨s1,hs1⟩:∃ s,s = bs cn:=⟨_,rfl⟩
 obtain ⟨s3,hs3⟩:∃ s,s = bs cr:=⟨_,rfl⟩
 rw [← hs1,← hs3]
 rw [← hs1] at hdev
 have hsz:0 < s1.size:=by rw [hs1,bs_size]; exact hh
 have hszi:(0:Int) < (s1.size:Int):=by omega
 have HE:=hid' (And.intro hs1 hs3)
 have eh:s1[0].toNat = 100:=by rw [head_of hsz hs1,hq]; rfl
 clear hs1 hs3 hd hh hq
 go_enter Tryz.func28,Tryz.ntmps28
 go_upto_region 1 with fail
 have hK:=(Kept.refl w).alloc (.cells #[.string s1,.slice a1 n1 k1,.string s3,.int .i64 cm,.int .i64 cx,.int .i64 ckd,.slice a2 n2 k2,.slice a3 n3 k3] 32)
 have hA:=RowL.alloc 32 w [.string s1,.slice a1 n1 k1,.string s3,.int .i64 cm,.int .i64 cx,.int .i64 ckd,.slice a2 n2 k2,.slice a3 n3 k3]
 generalize w.alloc (.cells #[.string s1,.slice a1 n1 k1,.string s3,.int .i64 cm,.int .i64 cx,.int .i64 ckd,.slice a2 n2 k2,.slice a3 n3 k3] 32) = W0 at hK hA ⊢
 obtain ⟨p,hp⟩:∃ q,q = w.heap.size:=⟨_,rfl⟩
 rw [← hp] at hA ⊢
 clear hp
 have g0:=hA.cell 0 (.string s1)
 go_wp2_with fail
 refine (hdev _).mono ?_
 rintro e w1 ⟨hk1,rfl⟩
 clear g0 hdev
 have hA:=hA.kept hk1
 have HK:=hid' (hK.trans hk1)
 clear hk1 hK
 have g0:=hA.cell 0 (.string s1)
 have g1:=hA.cell 1 (.slice a1 n1 k1)
 have HA:=hid' hA
 clear hA
 by_cases hN:n1 = 2
 rotate_left
 ·
  have hNi:((n1:Int) != 2) = true:=by simp; omega
  go_wp2_with fail
  go_ret
  refine ⟨HK.out,congrArg (fun b => Ending.returned (Value.bool b)) ?_⟩
  symm
  rw [HR.out,Bool.eq_false_iff]
  intro ht
  have:=((tail_iff _ _ _ _ _).1 ht).1
  have:=HLN.out.1
  simp only at *
  omega
 have hNi:((n1:Int) != 2) = false:=by simp; omega
 go_wp2_with fail
 clear g0 g1
 go_loopw [7] (fun vi wr => ∃ j:Nat,j≤n1∧vi = .int .i64 (j:Int)∧Hid (Kept w1 wr∧∀ i,i < j→okName (cnd.getD i []) = true)) (fun vi _ => n1 - (intOf vi).toNat)
 case atStart => exact ⟨0,Nat.zero_le _,rfl,Kept.refl w1,fun i hi => absurd hi (Nat.not_lt_zero _)⟩
 case round =>
  obtain ⟨j,hj,rfl,H⟩:=hrel
  have g1:=(HA.out.kept H.out.1).cell 1 (.slice a1 n1 k1)
  by_cases hlt:j < n1
  ·
   have hltz:(j:Int) < 2:=by omega
   have hltn:(j:Int) < (n1:Int):=by omega
   obtain ⟨ao',cap',hv,hx⟩:=(HC.out.1.nodes.kept HK.out).kept H.out.1
   simp only [Value.slice.injEq] at hv
   obtain ⟨rfl,_,rfl⟩:=hv
   have hnw:n1 = cnd.length:=HLN.out.1
   obtain ⟨b,off,rfl,hb,hcl⟩:=hx (show 0 < cnd.length by omega)
   have q0:wr.cell? ⟨b,off + j,none⟩ = some (.string (bs (cnd.getD j []))):=hcl j (show j < cnd.length by omega)
   obtain ⟨sk,hsk⟩:∃ s,s = bs (cnd.getD j []):=⟨_,rfl⟩
   rw [← hsk] at q0
   have hskl:sk.size≤9223372036854775807:=by
    rw [hsk,bs_size,List.getD_eq_getElem?_getD,List.getElem?_eq_getElem (show j < cnd.length by omega)]
    exact HC.out.2.2.2.1 _ (List.getElem_mem _)
   have HSK:=hid' (show sk.data.toList = cnd.getD j [] by rw [hsk,bs_list])
   clear hx hcl hnw hsk
   go_wp2_with fail
   refine (rname_any sk _ hskl).mono ?_
   rintro e w2 ⟨rfl,rfl⟩
   rw [HSK.out]
   by_cases ho:okName (cnd.getD j []) = true
   ·
    rw [ho]
    have HO:=hid' ho
    clear ho
    go_wp2_with fail
    go_roundw
    case rel =>
     refine ⟨j + 1,by omega,by go_num,H.out.1,fun i hi => ?_⟩
     by_cases e:i = j
     ·
      subst e; exact HO.out
     ·
      exact H.out.2 i (by omega)
    case measure => show n1 - ((j:Int) + 1).toNat < n1 - (j:Int).toNat; omega
   ·
    have ho:okName (cnd.getD j []) = false:=by simpa using ho
    rw [ho]
    have HO:=hid' ho
    clear ho
    go_wp2_with fail
    go_ret
    refine ⟨HK.out.trans H.out.1,congrArg (fun b => Ending.returned (Value.bool b)) ?_⟩
    symm
    rw [HR.out,Bool.eq_false_iff]
    intro ht
    have h2:=((tail_iff _ _ _ _ _).1 ht).2.1 (cnd.getD j []) (by
     have:j < cnd.length:=by have:=HLN.out.1; omega
     rw [List.getD_eq_getElem?_getD,List.getElem?_eq_getElem this]
     exact List.getElem_mem _)
    rw [HO.out] at h2
    exact absurd h2 (by decide)
  ·
   obtain rfl:j = n1:=by omega
   have hltz:¬ (j:Int) < 2:=by omega
   have g2:=(HA.out.kept H.out.1).cell 2 (.string s3)
   have g3:=(HA.out.kept H.out.1).cell 3 (.int .i64 cm)
   have g4:=(HA.out.kept H.out.1).cell 4 (.int .i64 cx)
   have g5:=(HA.out.kept H.out.1).cell 5 (.int .i64 ckd)
   have g6:=(HA.out.kept H.out.1).cell 6 (.slice a2 n2 k2)
   have g7:=(HA.out.kept H.out.1).cell 7 (.slice a3 n3 k3)
   have HT:=hid' (show r = (okName cr && ((decide (cm = 0) && decide (cx = 0)) && (decide (ckd = 0) && ((n2:Int) + (n3:Int) == 0)))) by
    rw [HR.out]
    unfold tailB
    have h1:decide (cnd.length = 2) = true:=decide_eq_true (by have:=HLN.out.1; omega)
    have h2:cnd.all okName = true:=by
     rw [List.all_eq_true]
     intro x hx
     obtain ⟨i,hi,rfl⟩:=List.getElem_of_mem hx
     have:=H.out.2 i (by have:=HLN.out.1; omega)
     rwa [List.getD_eq_getElem?_getD,List.getElem?_eq_getElem hi] at this
    have h3:decide (ckd = 0∧cvs = []∧css = []) = (decide (ckd = 0) && ((n2:Int) + (n3:Int) == 0)):=by
     rw [HLN.out.2.1,HLN.out.2.2,Bool.eq_iff_iff]
     simp only [Bool.and_eq_true,decide_eq_true_eq,beq_iff_eq]
     constructor
     ·
      rintro ⟨a,b,d⟩
      rw [b,d]
      exact ⟨a,rfl⟩
     ·
      rintro ⟨a,b⟩
      exact ⟨a,List.eq_nil_of_length_eq_zero (by omega),List.eq_nil_of_length_eq_zero (by omega)⟩
    have h4:decide ((cm,cx) = ((0,0):Int × Int)) = (decide (cm = 0) && decide (cx = 0)):=by
     rw [← Bool.decide_and]
     exact decide_eq_decide.2 (by simp)
    simp only [h1,h2,Bool.true_and,h3,h4,Bool.false_eq_true,if_false,if_true])
   have HKK:=hid' (HK.out.trans H.out.1)
   have e2:IntKind.i64.wrap ((n2:Int) + (n3:Int)) = (n2:Int) + (n3:Int):=by have:=HC.out.2.2.2.2; rw [IntKind.wrap_i64]; omega
   have hs3:s3.size≤9223372036854775807:=by rw [HE.out.2,bs_size]; exact HC.out.2.2.1
   have HS3:=hid' (show s3.data.toList = cr by rw [HE.out.2,bs_list])
   go_wp2_with fail
   refine (rname_any s3 _ hs3).mono ?_
   rintro e w2 ⟨rfl,rfl⟩
   rw [HS3.out]
   by_cases ho:okName cr = true
   rotate_left
   ·
    have ho:okName cr = false:=by simpa using ho
    rw [ho] at HT ⊢
    clear ho
    go_wp2_with fail
    go_ret
    refine ⟨HKK.out,congrArg (fun b => Ending.returned (Value.bool b)) ?_⟩
    rw [HT.out]
    rfl
   rw [ho] at HT ⊢
   clear ho
   by_cases hv:cm = 0
   rotate_left
   ·
    have hvb:(cm == 0) = false:=by simpa using hv
    have HV:=hid' hv
    clear hv
    go_wp2_with fail
    go_ret
    refine ⟨HKK.out,congrArg (fun b => Ending.returned (Value.bool b)) ?_⟩
    rw [HT.out]
    simp [HV.out]
   subst hv
   by_cases hv:cx = 0
   rotate_left
   ·
    have hvb:(cx == 0) = false:=by simpa using hv
    have HV:=hid' hv
    clear hv
    go_wp2_with fail
    go_ret
    refine ⟨HKK.out,congrArg (fun b => Ending.returned (Value.bool b)) ?_⟩
    rw [HT.out]
    simp [HV.out]
   subst hv
   by_cases hv:ckd = 0
   rotate_left
   ·
    have hvb:(ckd == 0) = false:=by simpa using hv
    have HV:=hid' hv
    clear hv
    go_wp2_with fail
    go_ret
    refine ⟨HKK.out,congrArg (fun b => Ending.returned (Value.bool b)) ?_⟩
    rw [HT.out]
    simp [HV.out]
   subst hv
   go_wp2_with fail
   go_ret
   refine ⟨HKK.out,congrArg (fun b => Ending.returned (Value.bool b)) ?_⟩
   rw [HT.out]
   simp
end V
end Go.Proofs.YtembglnonhlnkaaGreatDoor

namespace Go.Proofs.YtembglnonhlnkaaGreatDoor
open Go.RowKit
namespace V
open Q (hid' parseOf okN textOf RValid_any)
open X (bs OwnS RS strs bs_list bs_size)
set_option maxRecDepth 100000 in
set_option maxHeartbeats 8000000 in
theorem right_l115 (a1 a2 a3:Option Addr) (n1 k1 n2 k2 n3 k3:Nat) (c:Cd) (w:World) (hc:CdR w a1 n1 k1 a2 n2 k2 a3 n3 k3 c) (hd:devB c.name = true) (hq:c.name.getD 0 0 = 115) (hs:c.name.length≤9223372036854775807) (hrs:c.ref.length≤9223372036854775807) (hnd:∀ x ∈ c.nodes,x.length≤9223372036854775807) (hn:n1≤1000000000000000000∧n2≤1000000000000000000∧n3≤1000000000000000000) :
  Calls Tryz.prog 28 #[cdV c (.slice a1 n1 k1) (.slice a2 n2 k2) (.slice a3 n3 k3)] w fun e w' => Kept w w'∧e = .returned (.bool (tailB c 4 true false false)):=by
 have HC:=hid' (And.intro hc (And.intro hs (And.intro hrs (And.intro hnd hn))))
 obtain ⟨r,hr⟩:∃ r,r = tailB c 4 true false false:=⟨_,rfl⟩
 rw [← hr]
 have HR:=hid' hr
 have hh:=dev_len hd
 have hdev:=fun V => rdev_any (bs c.name) V (by rw [bs_size]; exact hs)
 rw [bs_list,hd] at hdev
 have HLN:=hid' (show n1 = c.nodes.length∧n2 = c.vals.length∧n3 = c.steps.length by
  obtain ⟨_,_,e1,_⟩:=hc.nodes
  obtain ⟨_,_,e2,_⟩:=hc.vals
  obtain ⟨_,_,e3,_⟩:=hc.steps
  simp only [Value.slice.injEq] at e1 e2 e3
  omega)
 clear hr hc hs hrs hnd
 obtain ⟨cn,cnd,cr,⟨cm,cx⟩,ckd,cvs,css⟩:=c
 unfold cdV
 simp only at hdev hh hq hd ⊢
 obtain ⟨s1,hs1⟩:∃ s,s = bs cn:=⟨_,rfl⟩
 obtain ⟨s3,hs3⟩:∃ s,s = bs cr:=⟨_,rfl⟩
 rw [← hs1,← hs3]
 rw [← hs1] at hdev
 have hsz:0 < s1.size:=by rw [hs1,bs_size]; exact hh
 have hszi:(0:Int) < (s1.size:Int):=by omega
 have HE:=hid' (And.intro hs1 hs3)
 have eh:s1[0].toNat = 115:=by rw [head_of hsz hs1,hq]; rfl
 clear hs1 hs3 hd hh hq
 go_enter Tryz.func28,Tryz.ntmps28
 go_upto_region 1 with fail
 have hK:=(Kept.refl w).alloc (.cells #[.string s1,.slice a1 n1 k1,.string s3,.int .i64 cm,.int .i64 cx,.int .i64 ckd,.slice a2 n2 k2,.slice a3 n3 k3] 32)
 have hA:=RowL.alloc 32 w [.string s1,.slice a1 n1 k1,.string s3,.int .i64 cm,.int .i64 cx,.int .i64 ckd,.slice a2 n2 k2,.slice a3 n3 k3]
 generalize w.alloc (.cells #[.string s1,.slice a1 n1 k1,.string s3,.int .i64 cm,.int .i64 cx,.int .i64 ckd,.slice a2 n2 k2,.slice a3 n3 k3] 32) = W0 at hK hA ⊢
 obtain ⟨p,hp⟩:∃ q,q = w.heap.size:=⟨_,rfl⟩
 rw [← hp] at hA ⊢
 clear hp
 have g0:=hA.cell 0 (.string s1)
 go_wp2_with fail
 refine (hdev _).mono ?_
 rintro e w1 ⟨hk1,rfl⟩
 clear g0 hdev
 have hA:=hA.kept hk1
 have HK:=hid' (hK.trans hk1)
 clear hk1 hK
 have g0:=hA.cell 0 (.string s1)
 have g1:=hA.cell 1 (.slice a1 n1 k1)
 have HA:=hid' hA
 clear hA
 by_cases hN:n1 = 4
 rotate_left
 ·
  have hNi:((n1:Int) != 4) = true:=by simp; omega
  go_wp2_with fail
  go_ret
  refine ⟨HK.out,congrArg (fun b => Ending.returned (Value.bool b)) ?_⟩
  symm
  rw [HR.out,Bool.eq_false_iff]
  intro ht
  have:=((tail_iff _ _ _ _ _).1 ht).1
  have:=HLN.out.1
  simp only at *
  omega
 have hNi:((n1:Int) != 4) = false:=by simp; omega
 go_wp2_with fail
 clear g0 g1
 go_loopw [7] (fun vi wr => ∃ j:Nat,j≤n1∧vi = .int .i64 (j:Int)∧Hid (Kept w1 wr∧∀ i,i < j→okName (cnd.getD i []) = true)) (fun vi _ => n1 - (intOf vi).toNat)
 case atStart => exact ⟨0,Nat.zero_le _,rfl,Kept.refl w1,fun i hi => absurd hi (Nat.not_lt_zero _)⟩
 case round =>
  obtain ⟨j,hj,rfl,H⟩:=hrel
  have g1:=(HA.out.kept H.out.1).cell 1 (.slice a1 n1 k1)
  by_cases hlt:j < n1
  ·
   have hltz:(j:Int) < 4:=by omega
   have hltn:(j:Int) < (n1:Int):=by omega
   obtain ⟨ao',cap',hv,hx⟩:=(HC.out.1.nodes.kept HK.out).kept H.out.1
   simp only [Value.slice.injEq] at hv
   obtain ⟨rfl,_,rfl⟩:=hv
   have hnw:n1 = cnd.length:=HLN.out.1
   obtain ⟨b,off,rfl,hb,hcl⟩:=hx (show 0 < cnd.length by omega)
   have q0:wr.cell? ⟨b,off + j,none⟩ = some (.string (bs (cnd.getD j []))):=hcl j (show j < cnd.length by omega)
   obtain ⟨sk,hsk⟩:∃ s,s = bs (cnd.getD j []):=⟨_,rfl⟩
   rw [← hsk] at q0
   have hskl:sk.size≤9223372036854775807:=by
    rw [hsk,bs_size,List.getD_eq_getElem?_getD,List.getElem?_eq_getElem (show j < cnd.length by omega)]
    exact HC.out.2.2.2.1 _ (List.getElem_mem _)
   have HSK:=hid' (show sk.data.toList = cnd.getD j [] by rw [hsk,bs_list])
   clear hx hcl hnw hsk
   go_wp2_with fail
   refine (rname_any sk _ hskl).mono ?_
   rintro e w2 ⟨rfl,rfl⟩
   rw [HSK.out]
   by_cases ho:okName (cnd.getD j []) = true
   ·
    rw [ho]
    have HO:=hid' ho
    clear ho
    go_wp2_with fail
    go_roundw
    case rel =>
     refine ⟨j + 1,by omega,by go_num,H.out.1,fun i hi => ?_⟩
     by_cases e:i = j
     ·
      subst e; exact HO.out
     ·
      exact H.out.2 i (by omega)
    case measure => show n1 - ((j:Int) + 1).toNat < n1 - (j:Int).toNat; omega
   ·
    have ho:okName (cnd.getD j []) = false:=by simpa using ho
    rw [ho]
    have HO:=hid' ho
    clear ho
    go_wp2_with fail
    go_ret
    refine ⟨HK.out.trans H.out.1,congrArg (fun b => Ending.returned (Value.bool b)) ?_⟩
    symm
    rw [HR.out,Bool.eq_false_iff]
    intro ht
    have h2:=((tail_iff _ _ _ _ _).1 ht).2.1 (cnd.getD j []) (by
     have:j < cnd.length:=by have:=HLN.out.1; omega
     rw [List.getD_eq_getElem?_getD,List.getElem?_eq_getElem this]
     exact List.getElem_mem _)
    rw [HO.out] at h2
    exact absurd h2 (by decide)
  ·
   obtain rfl:j = n1:=by omega
   have hltz:¬ (j:Int) < 4:=by omega
   have g2:=(HA.out.kept H.out.1).cell 2 (.string s3)
   have g3:=(HA.out.kept H.out.1).cell 3 (.int .i64 cm)
   have g4:=(HA.out.kept H.out.1).cell 4 (.int .i64 cx)
   have g5:=(HA.out.kept H.out.1).cell 5 (.int .i64 ckd)
   have g6:=(HA.out.kept H.out.1).cell 6 (.slice a2 n2 k2)
   have g7:=(HA.out.kept H.out.1).cell 7 (.slice a3 n3 k3)
   have HT:=hid' (show r = (okName cr && ((decide (cm = 0) && decide (cx = 0)) && (decide (ckd = 0) && ((n2:Int) + (n3:Int) == 0)))) by
    rw [HR.out]
    unfold tailB
    have h1:decide (cnd.length = 4) = true:=decide_eq_true (by have:=HLN.out.1; omega)
    have h2:cnd.all okName = true:=by
     rw [List.all_eq_true]
     intro x hx
     obtain ⟨i,hi,rfl⟩:=List.getElem_of_mem hx
     have:=H.out.2 i (by have:=HLN.out.1; omega)
     rwa [List.getD_eq_getElem?_getD,List.getElem?_eq_getElem hi] at this
    have h3:decide (ckd = 0∧cvs = []∧css = []) = (decide (ckd = 0) && ((n2:Int) + (n3:Int) == 0)):=by
     rw [HLN.out.2.1,HLN.out.2.2,Bool.eq_iff_iff]
     simp only [Bool.and_eq_true,decide_eq_true_eq,beq_iff_eq]
     constructor
     ·
      rintro ⟨a,b,d⟩
      rw [b,d]
      exact ⟨a,rfl⟩
     ·
      rintro ⟨a,b⟩
      exact ⟨a,List.eq_nil_of_length_eq_zero (by omega),List.eq_nil_of_length_eq_zero (by omega)⟩
    have h4:decide ((cm,cx) = ((0,0):Int × Int)) = (decide (cm = 0) && decide (cx = 0)):=by
     rw [← Bool.decide_and]
     exact decide_eq_decide.2 (by simp)
    simp only [h1,h2,Bool.true_and,h3,h4,Bool.false_eq_true,if_false,if_true])
   have HKK:=hid' (HK.out.trans H.out.1)
   have e2:IntKind.i64.wrap ((n2:Int) + (n3:Int)) = (n2:Int) + (n3:Int):=by have:=HC.out.2.2.2.2; rw [IntKind.wrap_i64]; omega
   have hs3:s3.size≤9223372036854775807:=by rw [HE.out.2,bs_size]; exact HC.out.2.2.1
   have HS3:=hid' (show s3.data.toList = cr by rw [HE.out.2,bs_list])
   go_wp2_with fail
   refine (rname_any s3 _ hs3).mono ?_
   rintro e w2 ⟨rfl,rfl⟩
   rw [HS3.out]
   by_cases ho:okName cr = true
   rotate_left
   ·
    have ho:okName cr = false:=by simpa using ho
    rw [ho] at HT ⊢
    clear ho
    go_wp2_with fail
    go_ret
    refine ⟨HKK.out,congrArg (fun b => Ending.returned (Value.bool b)) ?_⟩
    rw [HT.out]
    rfl
   rw [ho] at HT ⊢
   clear ho
   by_cases hv:cm = 0
   rotate_left
   ·
    have hvb:(cm == 0) = false:=by simpa using hv
    have HV:=hid' hv
    clear hv
    go_wp2_with fail
    go_ret
    refine ⟨HKK.out,congrArg (fun b => Ending.returned (Value.bool b)) ?_⟩
    rw [HT.out]
    simp [HV.out]
   subst hv
   by_cases hv:cx = 0
   rotate_left
   ·
    have hvb:(cx == 0) = false:=by simpa using hv
    have HV:=hid' hv
    clear hv
    go_wp2_with fail
    go_ret
    refine ⟨HKK.out,congrArg (fun b => Ending.returned (Value.bool b)) ?_⟩
    rw [HT.out]
    simp [HV.out]
   subst hv
   by_cases hv:ckd = 0
   rotate_left
   ·
    have hvb:(ckd == 0) = false:=by simpa using hv
    have HV:=hid' hv
    clear hv
    go_wp2_with fail
    go_ret
    refine ⟨HKK.out,congrArg (fun b => Ending.returned (Value.bool b)) ?_⟩
    rw [HT.out]
    simp [HV.out]
   subst hv
   go_wp2_with fail
   go_ret
   refine ⟨HKK.out,congrArg (fun b => Ending.returned (Value.bool b)) ?_⟩
   rw [HT.out]
   simp
end V
end Go.Proofs.YtembglnonhlnkaaGreatDoor

namespace Go.Proofs.YtembglnonhlnkaaGreatDoor
open Go.RowKit
namespace V
open Q (hid' parseOf okN textOf RValid_any)
open X (bs OwnS RS strs bs_list bs_size)
set_option maxRecDepth 100000 in
set_option maxHeartbeats 8000000 in
theorem right_l101 (a1 a2 a3:Option Addr) (n1 k1 n2 k2 n3 k3:Nat) (c:Cd) (w:World) (hc:CdR w a1 n1 k1 a2 n2 k2 a3 n3 k3 c) (hd:devB c.name = true) (hq:c.name.getD 0 0 = 101) (hs:c.name.length≤9223372036854775807) (hrs:c.ref.length≤9223372036854775807) (hnd:∀ x ∈ c.nodes,x.length≤9223372036854775807) (hn:n1≤1000000000000000000∧n2≤1000000000000000000∧n3≤1000000000000000000) :
  Calls Tryz.prog 28 #[cdV c (.slice a1 n1 k1) (.slice a2 n2 k2) (.slice a3 n3 k3)] w fun e w' => Kept w w'∧e = .returned (.bool (tailB c 4 false true false)):=by
 have HC:=hid' (And.intro hc (And.intro hs (And.intro hrs (And.intro hnd hn))))
 obtain ⟨r,hr⟩:∃ r,r = tailB c 4 false true false:=⟨_,rfl⟩
 rw [← hr]
 have HR:=hid' hr
 have hh:=dev_len hd
 have hdev:=fun V => rdev_any (bs c.name) V (by rw [bs_size]; exact hs)
 rw [bs_list,hd] at hdev
 have HLN:=hid' (show n1 = c.nodes.length∧n2 = c.vals.length∧n3 = c.steps.length by
  obtain ⟨_,_,e1,_⟩:=hc.nodes
  obtain ⟨_,_,e2,_⟩:=hc.vals
  obtain ⟨_,_,e3,_⟩:=hc.steps
  simp only [Value.slice.injEq] at e1 e2 e3
  omega)
 clear hr hc hs hrs hnd
 obtain ⟨cn,cnd,cr,⟨cm,cx⟩,ckd,cvs,css⟩:=c
 unfold cdV
 simp only at hdev hh hq hd ⊢
 obtain ⟨s1,hs1⟩:∃ s,s = bs cn:=⟨_,rfl⟩
 obtain ⟨s3,hs3⟩:∃ s,s = bs cr:=⟨_,rfl⟩
 rw [← hs1,← hs3]
 rw [← hs1] at hdev
 have hsz:0 < s1.size:=by rw [hs1,bs_size]; exact hh
 have hszi:(0:Int) < (s1.size:Int):=by omega
 have HE:=hid' (And.intro hs1 hs3)
 have eh:s1[0].toNat = 101:=by rw [head_of hsz hs1,hq]; rfl
 clear hs1 hs3 hd hh hq
 go_enter Tryz.func28,Tryz.ntmps28
 go_upto_region 1 with fail
 have hK:=(Kept.refl w).alloc (.cells #[.string s1,.slice a1 n1 k1,.string s3,.int .i64 cm,.int .i64 cx,.int .i64 ckd,.slice a2 n2 k2,.slice a3 n3 k3] 32)
 have hA:=RowL.alloc 32 w [.string s1,.slice a1 n1 k1,.string s3,.int .i64 cm,.int .i64 cx,.int .i64 ckd,.slice a2 n2 k2,.slice a3 n3 k3]
 generalize w.alloc (.cells #[.string s1,.slice a1 n1 k1,.string s3,.int .i64 cm,.int .i64 cx,.int .i64 ckd,.slice a2 n2 k2,.slice a3 n3 k3] 32) = W0 at hK hA ⊢
 obtain ⟨p,hp⟩:∃ q,q = w.heap.size:=⟨_,rfl⟩
 rw [← hp] at hA ⊢
 clear hp
 have g0:=hA.cell 0 (.string s1)
 go_wp2_with fail
 refine (hdev _).mono ?_
 rintro e w1 ⟨hk1,rfl⟩
 clear g0 hdev
 have hA:=hA.kept hk1
 have HK:=hid' (hK.trans hk1)
 clear hk1 hK
 have g0:=hA.cell 0 (.string s1)
 have g1:=hA.cell 1 (.slice a1 n1 k1)
 have HA:=hid' hA
 clear hA
 by_cases hN:n1 = 4
 rotate_left
 ·
  have hNi:((n1:Int) != 4) = true:=by simp; omega
  go_wp2_with fail
  go_ret
  refine ⟨HK.out,congrArg (fun b => Ending.returned (Value.bool b)) ?_⟩
  symm
  rw [HR.out,Bool.eq_false_iff]
  intro ht
  have:=((tail_iff _ _ _ _ _).1 ht).1
  have:=HLN.out.1
  simp only at *
  omega
 have hNi:((n1:Int) != 4) = false:=by simp; omega
 go_wp2_with fail
 clear g0 g1
 go_loopw [7] (fun vi wr => ∃ j:Nat,j≤n1∧vi = .int .i64 (j:Int)∧Hid (Kept w1 wr∧∀ i,i < j→okName (cnd.getD i []) = true)) (fun vi _ => n1 - (intOf vi).toNat)
 case atStart => exact ⟨0,Nat.zero_le _,rfl,Kept.refl w1,fun i hi => absurd hi (Nat.not_lt_zero _)⟩
 case round =>
  obtain ⟨j,hj,rfl,H⟩:=hrel
  have g1:=(HA.out.kept H.out.1).cell 1 (.slice a1 n1 k1)
  by_cases hlt:j < n1
  ·
   have hltz:(j:Int) < 4:=by omega
   have hltn:(j:Int) < (n1:Int):=by omega
   obtain ⟨ao',cap',hv,hx⟩:=(HC.out.1.nodes.kept HK.out).kept H.out.1
   simp only [Value.slice.injEq] at hv
   obtain ⟨rfl,_,rfl⟩:=hv
   have hnw:n1 = cnd.length:=HLN.out.1
   obtain ⟨b,off,rfl,hb,hcl⟩:=hx (show 0 < cnd.length by omega)
   have q0:wr.cell? ⟨b,off + j,none⟩ = some (.string (bs (cnd.getD j []))):=hcl j (show j < cnd.length by omega)
   obtain ⟨sk,hsk⟩:∃ s,s = bs (cnd.getD j []):=⟨_,rfl⟩
   rw [← hsk] at q0
   have hskl:sk.size≤9223372036854775807:=by
    rw [hsk,bs_size,List.getD_eq_getElem?_getD,List.getElem?_eq_getElem (show j < cnd.length by omega)]
    exact HC.out.2.2.2.1 _ (List.getElem_mem _)
   have HSK:=hid' (show sk.data.toList = cnd.getD j [] by rw [hsk,bs_list])
   clear hx hcl hnw hsk
   go_wp2_with fail
   refine (rname_any sk _ hskl).mono ?_
   rintro e w2 ⟨rfl,rfl⟩
   rw [HSK.out]
   by_cases ho:okName (cnd.getD j []) = true
   ·
    rw [ho]
    have HO:=hid' ho
    clear ho
    go_wp2_with fail
    go_roundw
    case rel =>
     refine ⟨j + 1,by omega,by go_num,H.out.1,fun i hi => ?_⟩
     by_cases e:i = j
     ·
      subst e; exact HO.out
     ·
      exact H.out.2 i (by omega)
    case measure => show n1 - ((j:Int) + 1).toNat < n1 - (j:Int).toNat; omega
   ·
    have ho:okName (cnd.getD j []) = false:=by simpa using ho
    rw [ho]
    have HO:=hid' ho
    clear ho
    go_wp2_with fail
    go_ret
    refine ⟨HK.out.trans H.out.1,congrArg (fun b => Ending.returned (Value.bool b)) ?_⟩
    symm
    rw [HR.out,Bool.eq_false_iff]
    intro ht
    have h2:=((tail_iff _ _ _ _ _).1 ht).2.1 (cnd.getD j []) (by
     have:j < cnd.length:=by have:=HLN.out.1; omega
     rw [List.getD_eq_getElem?_getD,List.getElem?_eq_getElem this]
     exact List.getElem_mem _)
    rw [HO.out] at h2
    exact absurd h2 (by decide)
  ·
   obtain rfl:j = n1:=by omega
   have hltz:¬ (j:Int) < 4:=by omega
   have g2:=(HA.out.kept H.out.1).cell 2 (.string s3)
   have g3:=(HA.out.kept H.out.1).cell 3 (.int .i64 cm)
   have g4:=(HA.out.kept H.out.1).cell 4 (.int .i64 cx)
   have g5:=(HA.out.kept H.out.1).cell 5 (.int .i64 ckd)
   have g6:=(HA.out.kept H.out.1).cell 6 (.slice a2 n2 k2)
   have g7:=(HA.out.kept H.out.1).cell 7 (.slice a3 n3 k3)
   have HT:=hid' (show r = (decide (cr = []) && (okN cm cx && (decide (ckd = 0) && ((n2:Int) + (n3:Int) == 0)))) by
    rw [HR.out]
    unfold tailB
    have h1:decide (cnd.length = 4) = true:=decide_eq_true (by have:=HLN.out.1; omega)
    have h2:cnd.all okName = true:=by
     rw [List.all_eq_true]
     intro x hx
     obtain ⟨i,hi,rfl⟩:=List.getElem_of_mem hx
     have:=H.out.2 i (by have:=HLN.out.1; omega)
     rwa [List.getD_eq_getElem?_getD,List.getElem?_eq_getElem hi] at this
    have h3:decide (ckd = 0∧cvs = []∧css = []) = (decide (ckd = 0) && ((n2:Int) + (n3:Int) == 0)):=by
     rw [HLN.out.2.1,HLN.out.2.2,Bool.eq_iff_iff]
     simp only [Bool.and_eq_true,decide_eq_true_eq,beq_iff_eq]
     constructor
     ·
      rintro ⟨a,b,d⟩
      rw [b,d]
      exact ⟨a,rfl⟩
     ·
      rintro ⟨a,b⟩
      exact ⟨a,List.eq_nil_of_length_eq_zero (by omega),List.eq_nil_of_length_eq_zero (by omega)⟩
    simp only [h1,h2,Bool.true_and,h3,Bool.false_eq_true,if_false,if_true])
   have HKK:=hid' (HK.out.trans H.out.1)
   have e2:IntKind.i64.wrap ((n2:Int) + (n3:Int)) = (n2:Int) + (n3:Int):=by have:=HC.out.2.2.2.2; rw [IntKind.wrap_i64]; omega
   by_cases hcr:cr = []
   rotate_left
   ·
    have hne:(!s3.toList.isEmpty) = true:=by
     rw [HE.out.2,ByteArray.toList_eq,bs_list]
     cases cr with
     | nil => exact absurd rfl hcr
     | cons x t => rfl
    have HV:=hid' hcr
    clear hcr
    go_wp2_with fail
    go_ret
    refine ⟨HKK.out,congrArg (fun b => Ending.returned (Value.bool b)) ?_⟩
    rw [HT.out]
    simp [HV.out]
   have hne:(!s3.toList.isEmpty) = false:=by rw [HE.out.2,ByteArray.toList_eq,bs_list,hcr]; rfl
   subst hcr
   go_wp2_with fail
   refine (RValid_any cm cx _).mono ?_
   rintro e w3 ⟨hk3,rfl⟩
   have HKK:=hid' (HKK.out.trans hk3)
   clear g1 g2 g3 g4 g5 g6 g7
   have hA:=HA.out.kept (H.out.1.trans hk3)
   have g5:=hA.cell 5 (.int .i64 ckd)
   have g6:=hA.cell 6 (.slice a2 n2 k2)
   have g7:=hA.cell 7 (.slice a3 n3 k3)
   clear hA hk3
   by_cases ho:okN cm cx = true
   rotate_left
   ·
    have ho:okN cm cx = false:=by simpa using ho
    rw [ho] at HT ⊢
    clear ho
    go_wp2_with fail
    go_ret
    refine ⟨HKK.out,congrArg (fun b => Ending.returned (Value.bool b)) ?_⟩
    rw [HT.out]
    simp
   rw [ho] at HT ⊢
   clear ho
   by_cases hv:ckd = 0
   rotate_left
   ·
    have hvb:(ckd == 0) = false:=by simpa using hv
    have HV:=hid' hv
    clear hv
    go_wp2_with fail
    go_ret
    refine ⟨HKK.out,congrArg (fun b => Ending.returned (Value.bool b)) ?_⟩
    rw [HT.out]
    simp [HV.out]
   subst hv
   go_wp2_with fail
   go_ret
   refine ⟨HKK.out,congrArg (fun b => Ending.returned (Value.bool b)) ?_⟩
   rw [HT.out]
   simp
set_option maxRecDepth 100000 in
set_option maxHeartbeats 8000000 in
theorem right_l103 (a1 a2 a3:Option Addr) (n1 k1 n2 k2 n3 k3:Nat) (c:Cd) (w:World) (hc:CdR w a1 n1 k1 a2 n2 k2 a3 n3 k3 c) (hd:devB c.name = true) (hq:c.name.getD 0 0 = 103) (hs:c.name.length≤9223372036854775807) (hrs:c.ref.length≤9223372036854775807) (hnd:∀ x ∈ c.nodes,x.length≤9223372036854775807) (hn:n1≤1000000000000000000∧n2≤1000000000000000000∧n3≤1000000000000000000) :
  Calls Tryz.prog 28 #[cdV c (.slice a1 n1 k1) (.slice a2 n2 k2) (.slice a3 n3 k3)] w fun e w' => Kept w w'∧e = .returned (.bool (tailB c 4 false true false)):=by
 have HC:=hid' (And.intro hc (And.intro hs (And.intro hrs (And.intro hnd hn))))
 obtain ⟨r,hr⟩:∃ r,r = tailB c 4 false true false:=⟨_,rfl⟩
 rw [← hr]
 have HR:=hid' hr
 have hh:=dev_len hd
 have hdev:=fun V => rdev_any (bs c.name) V (by rw [bs_size]; exact hs)
 rw [bs_list,hd] at hdev
 have HLN:=hid' (show n1 = c.nodes.length∧n2 = c.vals.length∧n3 = c.steps.length by
  obtain ⟨_,_,e1,_⟩:=hc.nodes
  obtain ⟨_,_,e2,_⟩:=hc.vals
  obtain ⟨_,_,e3,_⟩:=hc.steps
  simp only [Value.slice.injEq] at e1 e2 e3
  omega)
 clear hr hc hs hrs hnd
 obtain ⟨cn,cnd,cr,⟨cm,cx⟩,ckd,cvs,css⟩:=c
 unfold cdV
 simp only at hdev hh hq hd ⊢
 obtain ⟨s1,hs1⟩:∃ s,s = bs cn:=⟨_,rfl⟩
 obtain ⟨s3,hs3⟩:∃ s,s = bs cr:=⟨_,rfl⟩
 rw [← hs1,← hs3]
 rw [← hs1] at hdev
 have hsz:0 < s1.size:=by rw [hs1,bs_size]; exact hh
 have hszi:(0:Int) < (s1.size:Int):=by omega
 have HE:=hid' (And.intro hs1 hs3)
 have eh:s1[0].toNat = 103:=by rw [head_of hsz hs1,hq]; rfl
 clear hs1 hs3 hd hh hq
 go_enter Tryz.func28,Tryz.ntmps28
 go_upto_region 1 with fail
 have hK:=(Kept.refl w).alloc (.cells #[.string s1,.slice a1 n1 k1,.string s3,.int .i64 cm,.int .i64 cx,.int .i64 ckd,.slice a2 n2 k2,.slice a3 n3 k3] 32)
 have hA:=RowL.alloc 32 w [.string s1,.slice a1 n1 k1,.string s3,.int .i64 cm,.int .i64 cx,.int .i64 ckd,.slice a2 n2 k2,.slice a3 n3 k3]
 generalize w.alloc (.cells #[.string s1,.slice a1 n1 k1,.string s3,.int .i64 cm,.int .i64 cx,.int .i64 ckd,.slice a2 n2 k2,.slice a3 n3 k3] 32) = W0 at hK hA ⊢
 obtain ⟨p,hp⟩:∃ q,q = w.heap.size:=⟨_,rfl⟩
 rw [← hp] at hA ⊢
 clear hp
 have g0:=hA.cell 0 (.string s1)
 go_wp2_with fail
 refine (hdev _).mono ?_
 rintro e w1 ⟨hk1,rfl⟩
 clear g0 hdev
 have hA:=hA.kept hk1
 have HK:=hid' (hK.trans hk1)
 clear hk1 hK
 have g0:=hA.cell 0 (.string s1)
 have g1:=hA.cell 1 (.slice a1 n1 k1)
 have HA:=hid' hA
 clear hA
 by_cases hN:n1 = 4
 rotate_left
 ·
  have hNi:((n1:Int) != 4) = true:=by simp; omega
  go_wp2_with fail
  go_ret
  refine ⟨HK.out,congrArg (fun b => Ending.returned (Value.bool b)) ?_⟩
  symm
  rw [HR.out,Bool.eq_false_iff]
  intro ht
  have:=((tail_iff _ _ _ _ _).1 ht).1
  have:=HLN.out.1
  simp only at *
  omega
 have hNi:((n1:Int) != 4) = false:=by simp; omega
 go_wp2_with fail
 clear g0 g1
 go_loopw [7] (fun vi wr => ∃ j:Nat,j≤n1∧vi = .int .i64 (j:Int)∧Hid (Kept w1 wr∧∀ i,i < j→okName (cnd.getD i []) = true)) (fun vi _ => n1 - (intOf vi).toNat)
 case atStart => exact ⟨0,Nat.zero_le _,rfl,Kept.refl w1,fun i hi => absurd hi (Nat.not_lt_zero _)⟩
 case round =>
  obtain ⟨j,hj,rfl,H⟩:=hrel
  have g1:=(HA.out.kept H.out.1).cell 1 (.slice a1 n1 k1)
  by_cases hlt:j < n1
  ·
   have hltz:(j:Int) < 4:=by omega
   have hltn:(j:Int) < (n1:Int):=by omega
   obtain ⟨ao',cap',hv,hx⟩:=(HC.out.1.nodes.kept HK.out).kept H.out.1
   simp only [Value.slice.injEq] at hv
   obtain ⟨rfl,_,rfl⟩:=hv
   have hnw:n1 = cnd.length:=HLN.out.1
   obtain ⟨b,off,rfl,hb,hcl⟩:=hx (show 0 < cnd.length by omega)
   have q0:wr.cell? ⟨b,off + j,none⟩ = some (.string (bs (cnd.getD j []))):=hcl j (show j < cnd.length by omega)
   obtain ⟨sk,hsk⟩:∃ s,s = bs (cnd.getD j []):=⟨_,rfl⟩
   rw [← hsk] at q0
   have hskl:sk.size≤9223372036854775807:=by
    rw [hsk,bs_size,List.getD_eq_getElem?_getD,List.getElem?_eq_getElem (show j < cnd.length by omega)]
    exact HC.out.2.2.2.1 _ (List.getElem_mem _)
   have HSK:=hid' (show sk.data.toList = cnd.getD j [] by rw [hsk,bs_list])
   clear hx hcl hnw hsk
   go_wp2_with fail
   refine (rname_any sk _ hskl).mono ?_
   rintro e w2 ⟨rfl,rfl⟩
   rw [HSK.out]
   by_cases ho:okName (cnd.getD j []) = true
   ·
    rw [ho]
    have HO:=hid' ho
    clear ho
    go_wp2_with fail
    go_roundw
    case rel =>
     refine ⟨j + 1,by omega,by go_num,H.out.1,fun i hi => ?_⟩
     by_cases e:i = j
     ·
      subst e; exact HO.out
     ·
      exact H.out.2 i (by omega)
    case measure => show n1 - ((j:Int) + 1).toNat < n1 - (j:Int).toNat; omega
   ·
    have ho:okName (cnd.getD j []) = false:=by simpa using ho
    rw [ho]
    have HO:=hid' ho
    clear ho
    go_wp2_with fail
    go_ret
    refine ⟨HK.out.trans H.out.1,congrArg (fun b => Ending.returned (Value.bool b)) ?_⟩
    symm
    rw [HR.out,Bool.eq_false_iff]
    intro ht
    have h2:=((tail_iff _ _ _ _ _).1 ht).2.1 (cnd.getD j []) (by
     have:j < cnd.length:=by have:=HLN.out.1; omega
     rw [List.getD_eq_getElem?_getD,List.getElem?_eq_getElem this]
     exact List.getElem_mem _)
    rw [HO.out] at h2
    exact absurd h2 (by decide)
  ·
   obtain rfl:j = n1:=by omega
   have hltz:¬ (j:Int) < 4:=by omega
   have g2:=(HA.out.kept H.out.1).cell 2 (.string s3)
   have g3:=(HA.out.kept H.out.1).cell 3 (.int .i64 cm)
   have g4:=(HA.out.kept H.out.1).cell 4 (.int .i64 cx)
   have g5:=(HA.out.kept H.out.1).cell 5 (.int .i64 ckd)
   have g6:=(HA.out.kept H.out.1).cell 6 (.slice a2 n2 k2)
   have g7:=(HA.out.kept H.out.1).cell 7 (.slice a3 n3 k3)
   have HT:=hid' (show r = (decide (cr = []) && (okN cm cx && (decide (ckd = 0) && ((n2:Int) + (n3:Int) == 0)))) by
    rw [HR.out]
    unfold tailB
    have h1:decide (cnd.length = 4) = true:=decide_eq_true (by have:=HLN.out.1; omega)
    have h2:cnd.all okName = true:=by
     rw [List.all_eq_true]
     intro x hx
     obtain ⟨i,hi,rfl⟩:=List.getElem_of_mem hx
     have:=H.out.2 i (by have:=HLN.out.1; omega)
     rwa [List.getD_eq_getElem?_getD,List.getElem?_eq_getElem hi] at this
    have h3:decide (ckd = 0∧cvs = []∧css = []) = (decide (ckd = 0) && ((n2:Int) + (n3:Int) == 0)):=by
     rw [HLN.out.2.1,HLN.out.2.2,Bool.eq_iff_iff]
     simp only [Bool.and_eq_true,decide_eq_true_eq,beq_iff_eq]
     constructor
     ·
      rintro ⟨a,b,d⟩
      rw [b,d]
      exact ⟨a,rfl⟩
     ·
      rintro ⟨a,b⟩
      exact ⟨a,List.eq_nil_of_length_eq_zero (by omega),List.eq_nil_of_length_eq_zero (by omega)⟩
    simp only [h1,h2,Bool.true_and,h3,Bool.false_eq_true,if_false,if_true])
   have HKK:=hid' (HK.out.trans H.out.1)
   have e2:IntKind.i64.wrap ((n2:Int) + (n3:Int)) = (n2:Int) + (n3:Int):=by have:=HC.out.2.2.2.2; rw [IntKind.wrap_i64]; omega
   by_cases hcr:cr = []
   rotate_left
   ·
    have hne:(!s3.toList.isEmpty) = true:=by
     rw [HE.out.2,ByteArray.toList_eq,bs_list]
     cases cr with
     | nil => exact absurd rfl hcr
     | cons x t => rfl
    have HV:=hid' hcr
    clear hcr
    go_wp2_with fail
    go_ret
    refine ⟨HKK.out,congrArg (fun b => Ending.returned (Value.bool b)) ?_⟩
    rw [HT.out]
    simp [HV.out]
   have hne:(!s3.toList.isEmpty) = false:=by rw [HE.out.2,ByteArray.toList_eq,bs_list,hcr]; rfl
   subst hcr
   go_wp2_with fail
   refine (RValid_any cm cx _).mono ?_
   rintro e w3 ⟨hk3,rfl⟩
   have HKK:=hid' (HKK.out.trans hk3)
   clear g1 g2 g3 g4 g5 g6 g7
   have hA:=HA.out.kept (H.out.1.trans hk3)
   have g5:=hA.cell 5 (.int .i64 ckd)
   have g6:=hA.cell 6 (.slice a2 n2 k2)
   have g7:=hA.cell 7 (.slice a3 n3 k3)
   clear hA hk3
   by_cases ho:okN cm cx = true
   rotate_left
   ·
    have ho:okN cm cx = false:=by simpa using ho
    rw [ho] at HT ⊢
    clear ho
    go_wp2_with fail
    go_ret
    refine ⟨HKK.out,congrArg (fun b => Ending.returned (Value.bool b)) ?_⟩
    rw [HT.out]
    simp
   rw [ho] at HT ⊢
   clear ho
   by_cases hv:ckd = 0
   rotate_left
   ·
    have hvb:(ckd == 0) = false:=by simpa using hv
    have HV:=hid' hv
    clear hv
    go_wp2_with fail
    go_ret
    refine ⟨HKK.out,congrArg (fun b => Ending.returned (Value.bool b)) ?_⟩
    rw [HT.out]
    simp [HV.out]
   subst hv
   go_wp2_with fail
   go_ret
   refine ⟨HKK.out,congrArg (fun b => Ending.returned (Value.bool b)) ?_⟩
   rw [HT.out]
   simp
set_option maxRecDepth 100000 in
set_option maxHeartbeats 8000000 in
theorem right_l116 (a1 a2 a3:Option Addr) (n1 k1 n2 k2 n3 k3:Nat) (c:Cd) (w:World) (hc:CdR w a1 n1 k1 a2 n2 k2 a3 n3 k3 c) (hd:devB c.name = true) (hq:c.name.getD 0 0 = 116) (hs:c.name.length≤9223372036854775807) (hrs:c.ref.length≤9223372036854775807) (hnd:∀ x ∈ c.nodes,x.length≤9223372036854775807) (hn:n1≤1000000000000000000∧n2≤1000000000000000000∧n3≤1000000000000000000) :
  Calls Tryz.prog 28 #[cdV c (.slice a1 n1 k1) (.slice a2 n2 k2) (.slice a3 n3 k3)] w fun e w' => Kept w w'∧e = .returned (.bool (tailB c 4 false true false)):=by
 have HC:=hid' (And.intro hc (And.intro hs (And.intro hrs (And.intro hnd hn))))
 obtain ⟨r,hr⟩:∃ r,r = tailB c 4 false true false:=⟨_,rfl⟩
 rw [← hr]
 have HR:=hid' hr
 have hh:=dev_len hd
 have hdev:=fun V => rdev_any (bs c.name) V (by rw [bs_size]; exact hs)
 rw [bs_list,hd] at hdev
 have HLN:=hid' (show n1 = c.nodes.length∧n2 = c.vals.length∧n3 = c.steps.length by
  obtain ⟨_,_,e1,_⟩:=hc.nodes
  obtain ⟨_,_,e2,_⟩:=hc.vals
  obtain ⟨_,_,e3,_⟩:=hc.steps
  simp only [Value.slice.injEq] at e1 e2 e3
  omega)
 clear hr hc hs hrs hnd
 obtain ⟨cn,cnd,cr,⟨cm,cx⟩,ckd,cvs,css⟩:=c
 unfold cdV
 simp only at hdev hh hq hd ⊢
 obtain ⟨s1,hs1⟩:∃ s,s = bs cn:=⟨_,rfl⟩
 obtain ⟨s3,hs3⟩:∃ s,s = bs cr:=⟨_,rfl⟩
 rw [← hs1,← hs3]
 rw [← hs1] at hdev
 have hsz:0 < s1.size:=by rw [hs1,bs_size]; exact hh
 have hszi:(0:Int) < (s1.size:Int):=by omega
 have HE:=hid' (And.intro hs1 hs3)
 have eh:s1[0].toNat = 116:=by rw [head_of hsz hs1,hq]; rfl
 clear hs1 hs3 hd hh hq
 go_enter Tryz.func28,Tryz.ntmps28
 go_upto_region 1 with fail
 have hK:=(Kept.refl w).alloc (.cells #[.string s1,.slice a1 n1 k1,.string s3,.int .i64 cm,.int .i64 cx,.int .i64 ckd,.slice a2 n2 k2,.slice a3 n3 k3] 32)
 have hA:=RowL.alloc 32 w [.string s1,.slice a1 n1 k1,.string s3,.int .i64 cm,.int .i64 cx,.int .i64 ckd,.slice a2 n2 k2,.slice a3 n3 k3]
 generalize w.alloc (.cells #[.string s1,.slice a1 n1 k1,.string s3,.int .i64 cm,.int .i64 cx,.int .i64 ckd,.slice a2 n2 k2,.slice a3 n3 k3] 32) = W0 at hK hA ⊢
 obtain ⟨p,hp⟩:∃ q,q = w.heap.size:=⟨_,rfl⟩
 rw [← hp] at hA ⊢
 clear hp
 have g0:=hA.cell 0 (.string s1)
 go_wp2_with fail
 refine (hdev _).mono ?_
 rintro e w1 ⟨hk1,rfl⟩
 clear g0 hdev
 have hA:=hA.kept hk1
 have HK:=hid' (hK.trans hk1)
 clear hk1 hK
 have g0:=hA.cell 0 (.string s1)
 have g1:=hA.cell 1 (.slice a1 n1 k1)
 have HA:=hid' hA
 clear hA
 by_cases hN:n1 = 4
 rotate_left
 ·
  have hNi:((n1:Int) != 4) = true:=by simp; omega
  go_wp2_with fail
  go_ret
  refine ⟨HK.out,congrArg (fun b => Ending.returned (Value.bool b)) ?_⟩
  symm
  rw [HR.out,Bool.eq_false_iff]
  intro ht
  have:=((tail_iff _ _ _ _ _).1 ht).1
  have:=HLN.out.1
  simp only at *
  omega
 have hNi:((n1:Int) != 4) = false:=by simp; omega
 go_wp2_with fail
 clear g0 g1
 go_loopw [7] (fun vi wr => ∃ j:Nat,j≤n1∧vi = .int .i64 (j:Int)∧Hid (Kept w1 wr∧∀ i,i < j→okName (cnd.getD i []) = true)) (fun vi _ => n1 - (intOf vi).toNat)
 case atStart => exact ⟨0,Nat.zero_le _,rfl,Kept.refl w1,fun i hi => absurd hi (Nat.not_lt_zero _)⟩
 case round =>
  obtain ⟨j,hj,rfl,H⟩:=hrel
  have g1:=(HA.out.kept H.out.1).cell 1 (.slice a1 n1 k1)
  by_cases hlt:j < n1
  ·
   have hltz:(j:Int) < 4:=by omega
   have hltn:(j:Int) < (n1:Int):=by omega
   obtain ⟨ao',cap',hv,hx⟩:=(HC.out.1.nodes.kept HK.out).kept H.out.1
   simp only [Value.slice.injEq] at hv
   obtain ⟨rfl,_,rfl⟩:=hv
   have hnw:n1 = cnd.length:=HLN.out.1
   obtain ⟨b,off,rfl,hb,hcl⟩:=hx (show 0 < cnd.length by omega)
   have q0:wr.cell? ⟨b,off + j,none⟩ = some (.string (bs (cnd.getD j []))):=hcl j (show j < cnd.length by omega)
   obtain ⟨sk,hsk⟩:∃ s,s = bs (cnd.getD j []):=⟨_,rfl⟩
   rw [← hsk] at q0
   have hskl:sk.size≤9223372036854775807:=by
    rw [hsk,bs_size,List.getD_eq_getElem?_getD,List.getElem?_eq_getElem (show j < cnd.length by omega)]
    exact HC.out.2.2.2.1 _ (List.getElem_mem _)
   have HSK:=hid' (show sk.data.toList = cnd.getD j [] by rw [hsk,bs_list])
   clear hx hcl hnw hsk
   go_wp2_with fail
   refine (rname_any sk _ hskl).mono ?_
   rintro e w2 ⟨rfl,rfl⟩
   rw [HSK.out]
   by_cases ho:okName (cnd.getD j []) = true
   ·
    rw [ho]
    have HO:=hid' ho
    clear ho
    go_wp2_with fail
    go_roundw
    case rel =>
     refine ⟨j + 1,by omega,by go_num,H.out.1,fun i hi => ?_⟩
     by_cases e:i = j
     ·
      subst e; exact HO.out
     ·
      exact H.out.2 i (by omega)
    case measure => show n1 - ((j:Int) + 1).toNat < n1 - (j:Int).toNat; omega
   ·
    have ho:okName (cnd.getD j []) = false:=by simpa using ho
    rw [ho]
    have HO:=hid' ho
    clear ho
    go_wp2_with fail
    go_ret
    refine ⟨HK.out.trans H.out.1,congrArg (fun b => Ending.returned (Value.bool b)) ?_⟩
    symm
    rw [HR.out,Bool.eq_false_iff]
    intro ht
    have h2:=((tail_iff _ _ _ _ _).1 ht).2.1 (cnd.getD j []) (by
     have:j < cnd.length:=by have:=HLN.out.1; omega
     rw [List.getD_eq_getElem?_getD,List.getElem?_eq_getElem this]
     exact List.getElem_mem _)
    rw [HO.out] at h2
    exact absurd h2 (by decide)
  ·
   obtain rfl:j = n1:=by omega
   have hltz:¬ (j:Int) < 4:=by omega
   have g2:=(HA.out.kept H.out.1).cell 2 (.string s3)
   have g3:=(HA.out.kept H.out.1).cell 3 (.int .i64 cm)
   have g4:=(HA.out.kept H.out.1).cell 4 (.int .i64 cx)
   have g5:=(HA.out.kept H.out.1).cell 5 (.int .i64 ckd)
   have g6:=(HA.out.kept H.out.1).cell 6 (.slice a2 n2 k2)
   have g7:=(HA.out.kept H.out.1).cell 7 (.slice a3 n3 k3)
   have HT:=hid' (show r = (decide (cr = []) && (okN cm cx && (decide (ckd = 0) && ((n2:Int) + (n3:Int) == 0)))) by
    rw [HR.out]
    unfold tailB
    have h1:decide (cnd.length = 4) = true:=decide_eq_true (by have:=HLN.out.1; omega)
    have h2:cnd.all okName = true:=by
     rw [List.all_eq_true]
     intro x hx
     obtain ⟨i,hi,rfl⟩:=List.getElem_of_mem hx
     have:=H.out.2 i (by have:=HLN.out.1; omega)
     rwa [List.getD_eq_getElem?_getD,List.getElem?_eq_getElem hi] at this
    have h3:decide (ckd = 0∧cvs = []∧css = []) = (decide (ckd = 0) && ((n2:Int) + (n3:Int) == 0)):=by
     rw [HLN.out.2.1,HLN.out.2.2,Bool.eq_iff_iff]
     simp only [Bool.and_eq_true,decide_eq_true_eq,beq_iff_eq]
     constructor
     ·
      rintro ⟨a,b,d⟩
      rw [b,d]
      exact ⟨a,rfl⟩
     ·
      rintro ⟨a,b⟩
      exact ⟨a,List.eq_nil_of_length_eq_zero (by omega),List.eq_nil_of_length_eq_zero (by omega)⟩
    simp only [h1,h2,Bool.true_and,h3,Bool.false_eq_true,if_false,if_true])
   have HKK:=hid' (HK.out.trans H.out.1)
   have e2:IntKind.i64.wrap ((n2:Int) + (n3:Int)) = (n2:Int) + (n3:Int):=by have:=HC.out.2.2.2.2; rw [IntKind.wrap_i64]; omega
   by_cases hcr:cr = []
   rotate_left
   ·
    have hne:(!s3.toList.isEmpty) = true:=by
     rw [HE.out.2,ByteArray.toList_eq,bs_list]
     cases cr with
     | nil => exact absurd rfl hcr
     | cons x t => rfl
    have HV:=hid' hcr
    clear hcr
    go_wp2_with fail
    go_ret
    refine ⟨HKK.out,congrArg (fun b => Ending.returned (Value.bool b)) ?_⟩
    rw [HT.out]
    simp [HV.out]
   have hne:(!s3.toList.isEmpty) = false:=by rw [HE.out.2,ByteArray.toList_eq,bs_list,hcr]; rfl
   subst hcr
   go_wp2_with fail
   refine (RValid_any cm cx _).mono ?_
   rintro e w3 ⟨hk3,rfl⟩
   have HKK:=hid' (HKK.out.trans hk3)
   clear g1 g2 g3 g4 g5 g6 g7
   have hA:=HA.out.kept (H.out.1.trans hk3)
   have g5:=hA.cell 5 (.int .i64 ckd)
   have g6:=hA.cell 6 (.slice a2 n2 k2)
   have g7:=hA.cell 7 (.slice a3 n3 k3)
   clear hA hk3
   by_cases ho:okN cm cx = true
   rotate_left
   ·
    have ho:okN cm cx = false:=by simpa using ho
    rw [ho] at HT ⊢
    clear ho
    go_wp2_with fail
    go_ret
    refine ⟨HKK.out,congrArg (fun b => Ending.returned (Value.bool b)) ?_⟩
    rw [HT.out]
    simp
   rw [ho] at HT ⊢
   clear ho
   by_cases hv:ckd = 0
   rotate_left
   ·
    have hvb:(ckd == 0) = false:=by simpa using hv
    have HV:=hid' hv
    clear hv
    go_wp2_with fail
    go_ret
    refine ⟨HKK.out,congrArg (fun b => Ending.returned (Value.bool b)) ?_⟩
    rw [HT.out]
    simp [HV.out]
   subst hv
   go_wp2_with fail
   go_ret
   refine ⟨HKK.out,congrArg (fun b => Ending.returned (Value.bool b)) ?_⟩
   rw [HT.out]
   simp
end V
end Go.Proofs.YtembglnonhlnkaaGreatDoor

namespace Go.Proofs.YtembglnonhlnkaaGreatDoor
open Go.RowKit
namespace V
open Q (hid' parseOf okN textOf RValid_any)
open X (bs OwnS RS strs bs_list bs_size)
set_option maxRecDepth 100000 in
set_option maxHeartbeats 8000000 in
theorem right_l118 (a1 a2 a3:Option Addr) (n1 k1 n2 k2 n3 k3:Nat) (c:Cd) (w:World) (hc:CdR w a1 n1 k1 a2 n2 k2 a3 n3 k3 c) (hd:devB c.name = true) (hq:c.name.getD 0 0 = 118) (hs:c.name.length≤9223372036854775807) (hrs:c.ref.length≤9223372036854775807) (hnd:∀ x ∈ c.nodes,x.length≤9223372036854775807) (hn:n1≤1000000000000000000∧n2≤1000000000000000000∧n3≤1000000000000000000) :
  Calls Tryz.prog 28 #[cdV c (.slice a1 n1 k1) (.slice a2 n2 k2) (.slice a3 n3 k3)] w fun e w' => Kept w w'∧e = .returned (.bool (tailB c 2 false false true)):=by
 have HC:=hid' (And.intro hc (And.intro hs (And.intro hrs (And.intro hnd hn))))
 obtain ⟨r,hr⟩:∃ r,r = tailB c 2 false false true:=⟨_,rfl⟩
 rw [← hr]
 have HR:=hid' hr
 have hh:=dev_len hd
 have hdev:=fun V => rdev_any (bs c.name) V (by rw [bs_size]; exact hs)
 rw [bs_list,hd] at hdev
 have HLN:=hid' (show n1 = c.nodes.length∧n2 = c.vals.length∧n3 = c.steps.length by
  obtain ⟨_,_,e1,_⟩:=hc.nodes
  obtain ⟨_,_,e2,_⟩:=hc.vals
  obtain ⟨_,_,e3,_⟩:=hc.steps
  simp only [Value.slice.injEq] at e1 e2 e3
  omega)
 clear hr hc hs hrs hnd
 obtain ⟨cn,cnd,cr,⟨cm,cx⟩,ckd,cvs,css⟩:=c
 unfold cdV
 simp only at hdev hh hq hd ⊢
 obtain ⟨s1,hs1⟩:∃ s,s = bs cn:=⟨_,rfl⟩
 obtain ⟨s3,hs3⟩:∃ s,s = bs cr:=⟨_,rfl⟩
 rw [← hs1,← hs3]
 rw [← hs1] at hdev
 have hsz:0 < s1.size:=by rw [hs1,bs_size]; exact hh
 have hszi:(0:Int) < (s1.size:Int):=by omega
 have HE:=hid' (And.intro hs1 hs3)
 have eh:s1[0].toNat = 118:=by rw [head_of hsz hs1,hq]; rfl
 clear hs1 hs3 hd hh hq
 go_enter Tryz.func28,Tryz.ntmps28
 go_upto_region 1 with fail
 have hK:=(Kept.refl w).alloc (.cells #[.string s1,.slice a1 n1 k1,.string s3,.int .i64 cm,.int .i64 cx,.int .i64 ckd,.slice a2 n2 k2,.slice a3 n3 k3] 32)
 have hA:=RowL.alloc 32 w [.string s1,.slice a1 n1 k1,.string s3,.int .i64 cm,.int .i64 cx,.int .i64 ckd,.slice a2 n2 k2,.slice a3 n3 k3]
 generalize w.alloc (.cells #[.string s1,.slice a1 n1 k1,.string s3,.int .i64 cm,.int .i64 cx,.int .i64 ckd,.slice a2 n2 k2,.slice a3 n3 k3] 32) = W0 at hK hA ⊢
 obtain ⟨p,hp⟩:∃ q,q = w.heap.size:=⟨_,rfl⟩
 rw [← hp] at hA ⊢
 clear hp
 have g0:=hA.cell 0 (.string s1)
 go_wp2_with fail
 refine (hdev _).mono ?_
 rintro e w1 ⟨hk1,rfl⟩
 clear g0 hdev
 have hA:=hA.kept hk1
 have HK:=hid' (hK.trans hk1)
 clear hk1 hK
 have g0:=hA.cell 0 (.string s1)
 have g1:=hA.cell 1 (.slice a1 n1 k1)
 have HA:=hid' hA
 clear hA
 by_cases hN:n1 = 2
 rotate_left
 ·
  have hNi:((n1:Int) != 2) = true:=by simp; omega
  go_wp2_with fail
  go_ret
  refine ⟨HK.out,congrArg (fun b => Ending.returned (Value.bool b)) ?_⟩
  symm
  rw [HR.out,Bool.eq_false_iff]
  intro ht
  have:=((tail_iff _ _ _ _ _).1 ht).1
  have:=HLN.out.1
  simp only at *
  omega
 have hNi:((n1:Int) != 2) = false:=by simp; omega
 go_wp2_with fail
 clear g0 g1
 go_loopw [7] (fun vi wr => ∃ j:Nat,j≤n1∧vi = .int .i64 (j:Int)∧Hid (Kept w1 wr∧∀ i,i < j→okName (cnd.getD i []) = true)) (fun vi _ => n1 - (intOf vi).toNat)
 case atStart => exact ⟨0,Nat.zero_le _,rfl,Kept.refl w1,fun i hi => absurd hi (Nat.not_lt_zero _)⟩
 case round =>
  obtain ⟨j,hj,rfl,H⟩:=hrel
  have g1:=(HA.out.kept H.out.1).cell 1 (.slice a1 n1 k1)
  by_cases hlt:j < n1
  ·
   have hltz:(j:Int) < 2:=by omega
   have hltn:(j:Int) < (n1:Int):=by omega
   obtain ⟨ao',cap',hv,hx⟩:=(HC.out.1.nodes.kept HK.out).kept H.out.1
   simp only [Value.slice.injEq] at hv
   obtain ⟨rfl,_,rfl⟩:=hv
   have hnw:n1 = cnd.length:=HLN.out.1
   obtain ⟨b,off,rfl,hb,hcl⟩:=hx (show 0 < cnd.length by omega)
   have q0:wr.cell? ⟨b,off + j,none⟩ = some (.string (bs (cnd.getD j []))):=hcl j (show j < cnd.length by omega)
   obtain ⟨sk,hsk⟩:∃ s,s = bs (cnd.getD j []):=⟨_,rfl⟩
   rw [← hsk] at q0
   have hskl:sk.size≤9223372036854775807:=by
    rw [hsk,bs_size,List.getD_eq_getElem?_getD,List.getElem?_eq_getElem (show j < cnd.length by omega)]
    exact HC.out.2.2.2.1 _ (List.getElem_mem _)
   have HSK:=hid' (show sk.data.toList = cnd.getD j [] by rw [hsk,bs_list])
   clear hx hcl hnw hsk
   go_wp2_with fail
   refine (rname_any sk _ hskl).mono ?_
   rintro e w2 ⟨rfl,rfl⟩
   rw [HSK.out]
   by_cases ho:okName (cnd.getD j []) = true
   ·
    rw [ho]
    have HO:=hid' ho
    clear ho
    go_wp2_with fail
    go_roundw
    case rel =>
     refine ⟨j + 1,by omega,by go_num,H.out.1,fun i hi => ?_⟩
     by_cases e:i = j
     ·
      subst e; exact HO.out
     ·
      exact H.out.2 i (by omega)
    case measure => show n1 - ((j:Int) + 1).toNat < n1 - (j:Int).toNat; omega
   ·
    have ho:okName (cnd.getD j []) = false:=by simpa using ho
    rw [ho]
    have HO:=hid' ho
    clear ho
    go_wp2_with fail
    go_ret
    refine ⟨HK.out.trans H.out.1,congrArg (fun b => Ending.returned (Value.bool b)) ?_⟩
    symm
    rw [HR.out,Bool.eq_false_iff]
    intro ht
    have h2:=((tail_iff _ _ _ _ _).1 ht).2.1 (cnd.getD j []) (by
     have:j < cnd.length:=by have:=HLN.out.1; omega
     rw [List.getD_eq_getElem?_getD,List.getElem?_eq_getElem this]
     exact List.getElem_mem _)
    rw [HO.out] at h2
    exact absurd h2 (by decide)
  ·
   obtain rfl:j = n1:=by omega
   have hltz:¬ (j:Int) < 2:=by omega
   have g2:=(HA.out.kept H.out.1).cell 2 (.string s3)
   have g3:=(HA.out.kept H.out.1).cell 3 (.int .i64 cm)
   have g4:=(HA.out.kept H.out.1).cell 4 (.int .i64 cx)
   have g5:=(HA.out.kept H.out.1).cell 5 (.int .i64 ckd)
   have g6:=(HA.out.kept H.out.1).cell 6 (.slice a2 n2 k2)
   have g7:=(HA.out.kept H.out.1).cell 7 (.slice a3 n3 k3)
   have HT:=hid' (show r = (decide (cr = []) && ((decide (cm = 0) && decide (cx = 0)) && okW ckd cvs css)) by
    rw [HR.out]
    unfold tailB
    have h1:decide (cnd.length = 2) = true:=decide_eq_true (by have:=HLN.out.1; omega)
    have h2:cnd.all okName = true:=by
     rw [List.all_eq_true]
     intro x hx
     obtain ⟨i,hi,rfl⟩:=List.getElem_of_mem hx
     have:=H.out.2 i (by have:=HLN.out.1; omega)
     rwa [List.getD_eq_getElem?_getD,List.getElem?_eq_getElem hi] at this
    have h4:decide ((cm,cx) = ((0,0):Int × Int)) = (decide (cm = 0) && decide (cx = 0)):=by
     rw [← Bool.decide_and]
     exact decide_eq_decide.2 (by simp)
    simp only [h1,h2,Bool.true_and,h4,Bool.false_eq_true,if_false,if_true])
   have HKK:=hid' (HK.out.trans H.out.1)
   by_cases hcr:cr = []
   rotate_left
   ·
    have hne:(!s3.toList.isEmpty) = true:=by
     rw [HE.out.2,ByteArray.toList_eq,bs_list]
     cases cr with
     | nil => exact absurd rfl hcr
     | cons x t => rfl
    have HV:=hid' hcr
    clear hcr
    go_wp2_with fail
    go_ret
    refine ⟨HKK.out,congrArg (fun b => Ending.returned (Value.bool b)) ?_⟩
    rw [HT.out]
    simp [HV.out]
   have hne:(!s3.toList.isEmpty) = false:=by rw [HE.out.2,ByteArray.toList_eq,bs_list,hcr]; rfl
   subst hcr
   by_cases hv:cm = 0
   rotate_left
   ·
    have hvb:(cm == 0) = false:=by simpa using hv
    have HV:=hid' hv
    clear hv
    go_wp2_with fail
    go_ret
    refine ⟨HKK.out,congrArg (fun b => Ending.returned (Value.bool b)) ?_⟩
    rw [HT.out]
    simp [HV.out]
   subst hv
   by_cases hv:cx = 0
   rotate_left
   ·
    have hvb:(cx == 0) = false:=by simpa using hv
    have HV:=hid' hv
    clear hv
    go_wp2_with fail
    go_ret
    refine ⟨HKK.out,congrArg (fun b => Ending.returned (Value.bool b)) ?_⟩
    rw [HT.out]
    simp [HV.out]
   subst hv
   go_wp2_with fail
   refine (rvalid_any ckd a2 a3 n2 k2 n3 k3 cvs css _ (HC.out.1.vals.kept HKK.out) (HC.out.1.steps.kept HKK.out) (by omega) (by omega)).mono ?_
   rintro e w3 ⟨hk3,rfl⟩
   have HKK:=hid' (HKK.out.trans hk3)
   clear hk3
   go_wp2_with fail
   go_ret
   refine ⟨HKK.out,congrArg (fun b => Ending.returned (Value.bool b)) ?_⟩
   rw [HT.out]
   simp
set_option maxRecDepth 100000 in
set_option maxHeartbeats 8000000 in
theorem right_l105 (a1 a2 a3:Option Addr) (n1 k1 n2 k2 n3 k3:Nat) (c:Cd) (w:World) (hc:CdR w a1 n1 k1 a2 n2 k2 a3 n3 k3 c) (hd:devB c.name = true) (hq:c.name.getD 0 0 = 105) (hs:c.name.length≤9223372036854775807) (hrs:c.ref.length≤9223372036854775807) (hnd:∀ x ∈ c.nodes,x.length≤9223372036854775807) (hn:n1≤1000000000000000000∧n2≤1000000000000000000∧n3≤1000000000000000000) :
  Calls Tryz.prog 28 #[cdV c (.slice a1 n1 k1) (.slice a2 n2 k2) (.slice a3 n3 k3)] w fun e w' => Kept w w'∧e = .returned (.bool (tailB c 2 false false true)):=by
 have HC:=hid' (And.intro hc (And.intro hs (And.intro hrs (And.intro hnd hn))))
 obtain ⟨r,hr⟩:∃ r,r = tailB c 2 false false true:=⟨_,rfl⟩
 rw [← hr]
 have HR:=hid' hr
 have hh:=dev_len hd
 have hdev:=fun V => rdev_any (bs c.name) V (by rw [bs_size]; exact hs)
 rw [bs_list,hd] at hdev
 have HLN:=hid' (show n1 = c.nodes.length∧n2 = c.vals.length∧n3 = c.steps.length by
  obtain ⟨_,_,e1,_⟩:=hc.nodes
  obtain ⟨_,_,e2,_⟩:=hc.vals
  obtain ⟨_,_,e3,_⟩:=hc.steps
  simp only [Value.slice.injEq] at e1 e2 e3
  omega)
 clear hr hc hs hrs hnd
 obtain ⟨cn,cnd,cr,⟨cm,cx⟩,ckd,cvs,css⟩:=c
 unfold cdV
 simp only at hdev hh hq hd ⊢
 obtain ⟨s1,hs1⟩:∃ s,s = bs cn:=⟨_,rfl⟩
 obtain ⟨s3,hs3⟩:∃ s,s = bs cr:=⟨_,rfl⟩
 rw [← hs1,← hs3]
 rw [← hs1] at hdev
 have hsz:0 < s1.size:=by rw [hs1,bs_size]; exact hh
 have hszi:(0:Int) < (s1.size:Int):=by omega
 have HE:=hid' (And.intro hs1 hs3)
 have eh:s1[0].toNat = 105:=by rw [head_of hsz hs1,hq]; rfl
 clear hs1 hs3 hd hh hq
 go_enter Tryz.func28,Tryz.ntmps28
 go_upto_region 1 with fail
 have hK:=(Kept.refl w).alloc (.cells #[.string s1,.slice a1 n1 k1,.string s3,.int .i64 cm,.int .i64 cx,.int .i64 ckd,.slice a2 n2 k2,.slice a3 n3 k3] 32)
 have hA:=RowL.alloc 32 w [.string s1,.slice a1 n1 k1,.string s3,.int .i64 cm,.int .i64 cx,.int .i64 ckd,.slice a2 n2 k2,.slice a3 n3 k3]
 generalize w.alloc (.cells #[.string s1,.slice a1 n1 k1,.string s3,.int .i64 cm,.int .i64 cx,.int .i64 ckd,.slice a2 n2 k2,.slice a3 n3 k3] 32) = W0 at hK hA ⊢
 obtain ⟨p,hp⟩:∃ q,q = w.heap.size:=⟨_,rfl⟩
 rw [← hp] at hA ⊢
 clear hp
 have g0:=hA.cell 0 (.string s1)
 go_wp2_with fail
 refine (hdev _).mono ?_
 rintro e w1 ⟨hk1,rfl⟩
 clear g0 hdev
 have hA:=hA.kept hk1
 have HK:=hid' (hK.trans hk1)
 clear hk1 hK
 have g0:=hA.cell 0 (.string s1)
 have g1:=hA.cell 1 (.slice a1 n1 k1)
 have HA:=hid' hA
 clear hA
 by_cases hN:n1 = 2
 rotate_left
 ·
  have hNi:((n1:Int) != 2) = true:=by simp; omega
  go_wp2_with fail
  go_ret
  refine ⟨HK.out,congrArg (fun b => Ending.returned (Value.bool b)) ?_⟩
  symm
  rw [HR.out,Bool.eq_false_iff]
  intro ht
  have:=((tail_iff _ _ _ _ _).1 ht).1
  have:=HLN.out.1
  simp only at *
  omega
 have hNi:((n1:Int) != 2) = false:=by simp; omega
 go_wp2_with fail
 clear g0 g1
 go_loopw [7] (fun vi wr => ∃ j:Nat,j≤n1∧vi = .int .i64 (j:Int)∧Hid (Kept w1 wr∧∀ i,i < j→okName (cnd.getD i []) = true)) (fun vi _ => n1 - (intOf vi).toNat)
 case atStart => exact ⟨0,Nat.zero_le _,rfl,Kept.refl w1,fun i hi => absurd hi (Nat.not_lt_zero _)⟩
 case round =>
  obtain ⟨j,hj,rfl,H⟩:=hrel
  have g1:=(HA.out.kept H.out.1).cell 1 (.slice a1 n1 k1)
  by_cases hlt:j < n1
  ·
   have hltz:(j:Int) < 2:=by omega
   have hltn:(j:Int) < (n1:Int):=by omega
   obtain ⟨ao',cap',hv,hx⟩:=(HC.out.1.nodes.kept HK.out).kept H.out.1
   simp only [Value.slice.injEq] at hv
   obtain ⟨rfl,_,rfl⟩:=hv
   have hnw:n1 = cnd.length:=HLN.out.1
   obtain ⟨b,off,rfl,hb,hcl⟩:=hx (show 0 < cnd.length by omega)
   have q0:wr.cell? ⟨b,off + j,none⟩ = some (.string (bs (cnd.getD j []))):=hcl j (show j < cnd.length by omega)
   obtain ⟨sk,hsk⟩:∃ s,s = bs (cnd.getD j []):=⟨_,rfl⟩
   rw [← hsk] at q0
   have hskl:sk.size≤9223372036854775807:=by
    rw [hsk,bs_size,List.getD_eq_getElem?_getD,List.getElem?_eq_getElem (show j < cnd.length by omega)]
    exact HC.out.2.2.2.1 _ (List.getElem_mem _)
   have HSK:=hid' (show sk.data.toList = cnd.getD j [] by rw [hsk,bs_list])
   clear hx hcl hnw hsk
   go_wp2_with fail
   refine (rname_any sk _ hskl).mono ?_
   rintro e w2 ⟨rfl,rfl⟩
   rw [HSK.out]
   by_cases ho:okName (cnd.getD j []) = true
   ·
    rw [ho]
    have HO:=hid' ho
    clear ho
    go_wp2_with fail
    go_roundw
    case rel =>
     refine ⟨j + 1,by omega,by go_num,H.out.1,fun i hi => ?_⟩
     by_cases e:i = j
     ·
      subst e; exact HO.out
     ·
      exact H.out.2 i (by omega)
    case measure => show n1 - ((j:Int) + 1).toNat < n1 - (j:Int).toNat; omega
   ·
    have ho:okName (cnd.getD j []) = false:=by simpa using ho
    rw [ho]
    have HO:=hid' ho
    clear ho
    go_wp2_with fail
    go_ret
    refine ⟨HK.out.trans H.out.1,congrArg (fun b => Ending.returned (Value.bool b)) ?_⟩
    symm
    rw [HR.out,Bool.eq_false_iff]
    intro ht
    have h2:=((tail_iff _ _ _ _ _).1 ht).2.1 (cnd.getD j []) (by
     have:j < cnd.length:=by have:=HLN.out.1; omega
     rw [List.getD_eq_getElem?_getD,List.getElem?_eq_getElem this]
     exact List.getElem_mem _)
    rw [HO.out] at h2
    exact absurd h2 (by decide)
  ·
   obtain rfl:j = n1:=by omega
   have hltz:¬ (j:Int) < 2:=by omega
   have g2:=(HA.out.kept H.out.1).cell 2 (.string s3)
   have g3:=(HA.out.kept H.out.1).cell 3 (.int .i64 cm)
   have g4:=(HA.out.kept H.out.1).cell 4 (.int .i64 cx)
   have g5:=(HA.out.kept H.out.1).cell 5 (.int .i64 ckd)
   have g6:=(HA.out.kept H.out.1).cell 6 (.slice a2 n2 k2)
   have g7:=(HA.out.kept H.out.1).cell 7 (.slice a3 n3 k3)
   have HT:=hid' (show r = (decide (cr = []) && ((decide (cm = 0) && decide (cx = 0)) && okW ckd cvs css)) by
    rw [HR.out]
    unfold tailB
    have h1:decide (cnd.length = 2) = true:=decide_eq_true (by have:=HLN.out.1; omega)
    have h2:cnd.all okName = true:=by
     rw [List.all_eq_true]
     intro x hx
     obtain ⟨i,hi,rfl⟩:=List.getElem_of_mem hx
     have:=H.out.2 i (by have:=HLN.out.1; omega)
     rwa [List.getD_eq_getElem?_getD,List.getElem?_eq_getElem hi] at this
    have h4:decide ((cm,cx) = ((0,0):Int × Int)) = (decide (cm = 0) && decide (cx = 0)):=by
     rw [← Bool.decide_and]
     exact decide_eq_decide.2 (by simp)
    simp only [h1,h2,Bool.true_and,h4,Bool.false_eq_true,if_false,if_true])
   have HKK:=hid' (HK.out.trans H.out.1)
   by_cases hcr:cr = []
   rotate_left
   ·
    have hne:(!s3.toList.isEmpty) = true:=by
     rw [HE.out.2,ByteArray.toList_eq,bs_list]
     cases cr with
     | nil => exact absurd rfl hcr
     | cons x t => rfl
    have HV:=hid' hcr
    clear hcr
    go_wp2_with fail
    go_ret
    refine ⟨HKK.out,congrArg (fun b => Ending.returned (Value.bool b)) ?_⟩
    rw [HT.out]
    simp [HV.out]
   have hne:(!s3.toList.isEmpty) = false:=by rw [HE.out.2,ByteArray.toList_eq,bs_list,hcr]; rfl
   subst hcr
   by_cases hv:cm = 0
   rotate_left
   ·
    have hvb:(cm == 0) = false:=by simpa using hv
    have HV:=hid' hv
    clear hv
    go_wp2_with fail
    go_ret
    refine ⟨HKK.out,congrArg (fun b => Ending.returned (Value.bool b)) ?_⟩
    rw [HT.out]
    simp [HV.out]
   subst hv
   by_cases hv:cx = 0
   rotate_left
   ·
    have hvb:(cx == 0) = false:=by simpa using hv
    have HV:=hid' hv
    clear hv
    go_wp2_with fail
    go_ret
    refine ⟨HKK.out,congrArg (fun b => Ending.returned (Value.bool b)) ?_⟩
    rw [HT.out]
    simp [HV.out]
   subst hv
   go_wp2_with fail
   refine (rvalid_any ckd a2 a3 n2 k2 n3 k3 cvs css _ (HC.out.1.vals.kept HKK.out) (HC.out.1.steps.kept HKK.out) (by omega) (by omega)).mono ?_
   rintro e w3 ⟨hk3,rfl⟩
   have HKK:=hid' (HKK.out.trans hk3)
   clear hk3
   go_wp2_with fail
   go_ret
   refine ⟨HKK.out,congrArg (fun b => Ending.returned (Value.bool b)) ?_⟩
   rw [HT.out]
   simp
end V
end Go.Proofs.YtembglnonhlnkaaGreatDoor

namespace Go.Proofs.YtembglnonhlnkaaGreatDoor
open Go.RowKit
namespace V
open Q (hid' parseOf okN textOf RValid_any)
open X (bs OwnS RS strs bs_list bs_size)
set_option maxRecDepth 100000 in
set_option maxHeartbeats 8000000 in
theorem right_l114 (a1 a2 a3:Option Addr) (n1 k1 n2 k2 n3 k3:Nat) (c:Cd) (w:World) (hc:CdR w a1 n1 k1 a2 n2 k2 a3 n3 k3 c) (hd:devB c.name = true) (hq:c.name.getD 0 0 = 114) (hz:c.val.1 ≠ 0) (hs:c.name.length≤9223372036854775807) (hrs:c.ref.length≤9223372036854775807) (hnd:∀ x ∈ c.nodes,x.length≤9223372036854775807) (hn:n1≤1000000000000000000∧n2≤1000000000000000000∧n3≤1000000000000000000) :
  Calls Tryz.prog 28 #[cdV c (.slice a1 n1 k1) (.slice a2 n2 k2) (.slice a3 n3 k3)] w fun e w' => Kept w w'∧e = .returned (.bool (tailB c 2 false true false)):=by
 have HC:=hid' (And.intro hc (And.intro hs (And.intro hrs (And.intro hnd hn))))
 obtain ⟨r,hr⟩:∃ r,r = tailB c 2 false true false:=⟨_,rfl⟩
 rw [← hr]
 have HR:=hid' hr
 have hh:=dev_len hd
 have hdev:=fun V => rdev_any (bs c.name) V (by rw [bs_size]; exact hs)
 rw [bs_list,hd] at hdev
 have HLN:=hid' (show n1 = c.nodes.length∧n2 = c.vals.length∧n3 = c.steps.length by
  obtain ⟨_,_,e1,_⟩:=hc.nodes
  obtain ⟨_,_,e2,_⟩:=hc.vals
  obtain ⟨_,_,e3,_⟩:=hc.steps
  simp only [Value.slice.injEq] at e1 e2 e3
  omega)
 clear hr hc hs hrs hnd
 obtain ⟨cn,cnd,cr,⟨cm,cx⟩,ckd,cvs,css⟩:=c
 unfold cdV
 simp only at hdev hh hq hd ⊢
 obtain ⟨s1,hs1⟩:∃ s,s = bs cn:=⟨_,rfl⟩
 obtain ⟨s3,hs3⟩:∃ s,s = bs cr:=⟨_,rfl⟩
 rw [← hs1,← hs3]
 rw [← hs1] at hdev
 have hsz:0 < s1.size:=by rw [hs1,bs_size]; exact hh
 have hszi:(0:Int) < (s1.size:Int):=by omega
 have HE:=hid' (And.intro hs1 hs3)
 have eh:s1[0].toNat = 114:=by rw [head_of hsz hs1,hq]; rfl
 clear hs1 hs3 hd hh hq
 go_enter Tryz.func28,Tryz.ntmps28
 go_upto_region 1 with fail
 have hK:=(Kept.refl w).alloc (.cells #[.string s1,.slice a1 n1 k1,.string s3,.int .i64 cm,.int .i64 cx,.int .i64 ckd,.slice a2 n2 k2,.slice a3 n3 k3] 32)
 have hA:=RowL.alloc 32 w [.string s1,.slice a1 n1 k1,.string s3,.int .i64 cm,.int .i64 cx,.int .i64 ckd,.slice a2 n2 k2,.slice a3 n3 k3]
 generalize w.alloc (.cells #[.string s1,.slice a1 n1 k1,.string s3,.int .i64 cm,.int .i64 cx,.int .i64 ckd,.slice a2 n2 k2,.slice a3 n3 k3] 32) = W0 at hK hA ⊢
 obtain ⟨p,hp⟩:∃ q,q = w.heap.size:=⟨_,rfl⟩
 rw [← hp] at hA ⊢
 clear hp
 have g0:=hA.cell 0 (.string s1)
 go_wp2_with fail
 refine (hdev _).mono ?_
 rintro e w1 ⟨hk1,rfl⟩
 clear g0 hdev
 have hA:=hA.kept hk1
 have HK:=hid' (hK.trans hk1)
 clear hk1 hK
 have g0:=hA.cell 0 (.string s1)
 have g1:=hA.cell 1 (.slice a1 n1 k1)
 have hzb:(cm != 0) = true:=by simpa using hz
 have g3:=hA.cell 3 (.int .i64 cm)
 have HA:=hid' hA
 clear hA
 by_cases hN:n1 = 2
 rotate_left
 ·
  have hNi:((n1:Int) != 2) = true:=by simp; omega
  go_wp2_with fail
  go_ret
  refine ⟨HK.out,congrArg (fun b => Ending.returned (Value.bool b)) ?_⟩
  symm
  rw [HR.out,Bool.eq_false_iff]
  intro ht
  have:=((tail_iff _ _ _ _ _).1 ht).1
  have:=HLN.out.1
  simp only at *
  omega
 have hNi:((n1:Int) != 2) = false:=by simp; omega
 go_wp2_with fail
 clear g0 g1
 go_loopw [7] (fun vi wr => ∃ j:Nat,j≤n1∧vi = .int .i64 (j:Int)∧Hid (Kept w1 wr∧∀ i,i < j→okName (cnd.getD i []) = true)) (fun vi _ => n1 - (intOf vi).toNat)
 case atStart => exact ⟨0,Nat.zero_le _,rfl,Kept.refl w1,fun i hi => absurd hi (Nat.not_lt_zero _)⟩
 case round =>
  obtain ⟨j,hj,rfl,H⟩:=hrel
  have g1:=(HA.out.kept H.out.1).cell 1 (.slice a1 n1 k1)
  by_cases hlt:j < n1
  ·
   have hltz:(j:Int) < 2:=by omega
   have hltn:(j:Int) < (n1:Int):=by omega
   obtain ⟨ao',cap',hv,hx⟩:=(HC.out.1.nodes.kept HK.out).kept H.out.1
   simp only [Value.slice.injEq] at hv
   obtain ⟨rfl,_,rfl⟩:=hv
   have hnw:n1 = cnd.length:=HLN.out.1
   obtain ⟨b,off,rfl,hb,hcl⟩:=hx (show 0 < cnd.length by omega)
   have q0:wr.cell? ⟨b,off + j,none⟩ = some (.string (bs (cnd.getD j []))):=hcl j (show j < cnd.length by omega)
   obtain ⟨sk,hsk⟩:∃ s,s = bs (cnd.getD j []):=⟨_,rfl⟩
   rw [← hsk] at q0
   have hskl:sk.size≤9223372036854775807:=by
    rw [hsk,bs_size,List.getD_eq_getElem?_getD,List.getElem?_eq_getElem (show j < cnd.length by omega)]
    exact HC.out.2.2.2.1 _ (List.getElem_mem _)
   have HSK:=hid' (show sk.data.toList = cnd.getD j [] by rw [hsk,bs_list])
   clear hx hcl hnw hsk
   go_wp2_with fail
   refine (rname_any sk _ hskl).mono ?_
   rintro e w2 ⟨rfl,rfl⟩
   rw [HSK.out]
   by_cases ho:okName (cnd.getD j []) = true
   ·
    rw [ho]
    have HO:=hid' ho
    clear ho
    go_wp2_with fail
    go_roundw
    case rel =>
     refine ⟨j + 1,by omega,by go_num,H.out.1,fun i hi => ?_⟩
     by_cases e:i = j
     ·
      subst e; exact HO.out
     ·
      exact H.out.2 i (by omega)
    case measure => show n1 - ((j:Int) + 1).toNat < n1 - (j:Int).toNat; omega
   ·
    have ho:okName (cnd.getD j []) = false:=by simpa using ho
    rw [ho]
    have HO:=hid' ho
    clear ho
    go_wp2_with fail
    go_ret
    refine ⟨HK.out.trans H.out.1,congrArg (fun b => Ending.returned (Value.bool b)) ?_⟩
    symm
    rw [HR.out,Bool.eq_false_iff]
    intro ht
    have h2:=((tail_iff _ _ _ _ _).1 ht).2.1 (cnd.getD j []) (by
     have:j < cnd.length:=by have:=HLN.out.1; omega
     rw [List.getD_eq_getElem?_getD,List.getElem?_eq_getElem this]
     exact List.getElem_mem _)
    rw [HO.out] at h2
    exact absurd h2 (by decide)
  ·
   obtain rfl:j = n1:=by omega
   have hltz:¬ (j:Int) < 2:=by omega
   have g2:=(HA.out.kept H.out.1).cell 2 (.string s3)
   have g3:=(HA.out.kept H.out.1).cell 3 (.int .i64 cm)
   have g4:=(HA.out.kept H.out.1).cell 4 (.int .i64 cx)
   have g5:=(HA.out.kept H.out.1).cell 5 (.int .i64 ckd)
   have g6:=(HA.out.kept H.out.1).cell 6 (.slice a2 n2 k2)
   have g7:=(HA.out.kept H.out.1).cell 7 (.slice a3 n3 k3)
   have HT:=hid' (show r = (decide (cr = []) && (okN cm cx && (decide (ckd = 0) && ((n2:Int) + (n3:Int) == 0)))) by
    rw [HR.out]
    unfold tailB
    have h1:decide (cnd.length = 2) = true:=decide_eq_true (by have:=HLN.out.1; omega)
    have h2:cnd.all okName = true:=by
     rw [List.all_eq_true]
     intro x hx
     obtain ⟨i,hi,rfl⟩:=List.getElem_of_mem hx
     have:=H.out.2 i (by have:=HLN.out.1; omega)
     rwa [List.getD_eq_getElem?_getD,List.getElem?_eq_getElem hi] at this
    have h3:decide (ckd = 0∧cvs = []∧css = []) = (decide (ckd = 0) && ((n2:Int) + (n3:Int) == 0)):=by
     rw [HLN.out.2.1,HLN.out.2.2,Bool.eq_iff_iff]
     simp only [Bool.and_eq_true,decide_eq_true_eq,beq_iff_eq]
     constructor
     ·
      rintro ⟨a,b,d⟩
      rw [b,d]
      exact ⟨a,rfl⟩
     ·
      rintro ⟨a,b⟩
      exact ⟨a,List.eq_nil_of_length_eq_zero (by omega),List.eq_nil_of_length_eq_zero (by omega)⟩
    simp only [h1,h2,Bool.true_and,h3,Bool.false_eq_true,if_false,if_true])
   have HKK:=hid' (HK.out.trans H.out.1)
   have e2:IntKind.i64.wrap ((n2:Int) + (n3:Int)) = (n2:Int) + (n3:Int):=by have:=HC.out.2.2.2.2; rw [IntKind.wrap_i64]; omega
   by_cases hcr:cr = []
   rotate_left
   ·
    have hne:(!s3.toList.isEmpty) = true:=by
     rw [HE.out.2,ByteArray.toList_eq,bs_list]
     cases cr with
     | nil => exact absurd rfl hcr
     | cons x t => rfl
    have HV:=hid' hcr
    clear hcr
    go_wp2_with fail
    go_ret
    refine ⟨HKK.out,congrArg (fun b => Ending.returned (Value.bool b)) ?_⟩
    rw [HT.out]
    simp [HV.out]
   have hne:(!s3.toList.isEmpty) = false:=by rw [HE.out.2,ByteArray.toList_eq,bs_list,hcr]; rfl
   subst hcr
   go_wp2_with fail
   refine (RValid_any cm cx _).mono ?_
   rintro e w3 ⟨hk3,rfl⟩
   have HKK:=hid' (HKK.out.trans hk3)
   clear g1 g2 g3 g4 g5 g6 g7
   have hA:=HA.out.kept (H.out.1.trans hk3)
   have g5:=hA.cell 5 (.int .i64 ckd)
   have g6:=hA.cell 6 (.slice a2 n2 k2)
   have g7:=hA.cell 7 (.slice a3 n3 k3)
   clear hA hk3
   by_cases ho:okN cm cx = true
   rotate_left
   ·
    have ho:okN cm cx = false:=by simpa using ho
    rw [ho] at HT ⊢
    clear ho
    go_wp2_with fail
    go_ret
    refine ⟨HKK.out,congrArg (fun b => Ending.returned (Value.bool b)) ?_⟩
    rw [HT.out]
    simp
   rw [ho] at HT ⊢
   clear ho
   by_cases hv:ckd = 0
   rotate_left
   ·
    have hvb:(ckd == 0) = false:=by simpa using hv
    have HV:=hid' hv
    clear hv
    go_wp2_with fail
    go_ret
    refine ⟨HKK.out,congrArg (fun b => Ending.returned (Value.bool b)) ?_⟩
    rw [HT.out]
    simp [HV.out]
   subst hv
   go_wp2_with fail
   go_ret
   refine ⟨HKK.out,congrArg (fun b => Ending.returned (Value.bool b)) ?_⟩
   rw [HT.out]
   simp
set_option maxRecDepth 100000 in
set_option maxHeartbeats 8000000 in
theorem right_l99 (a1 a2 a3:Option Addr) (n1 k1 n2 k2 n3 k3:Nat) (c:Cd) (w:World) (hc:CdR w a1 n1 k1 a2 n2 k2 a3 n3 k3 c) (hd:devB c.name = true) (hq:c.name.getD 0 0 = 99) (hz:c.val.1 ≠ 0) (hs:c.name.length≤9223372036854775807) (hrs:c.ref.length≤9223372036854775807) (hnd:∀ x ∈ c.nodes,x.length≤9223372036854775807) (hn:n1≤1000000000000000000∧n2≤1000000000000000000∧n3≤1000000000000000000) :
  Calls Tryz.prog 28 #[cdV c (.slice a1 n1 k1) (.slice a2 n2 k2) (.slice a3 n3 k3)] w fun e w' => Kept w w'∧e = .returned (.bool (tailB c 2 false true false)):=by
 have HC:=hid' (And.intro hc (And.intro hs (And.intro hrs (And.intro hnd hn))))
 obtain ⟨r,hr⟩:∃ r,r = tailB c 2 false true false:=⟨_,rfl⟩
 rw [← hr]
 have HR:=hid' hr
 have hh:=dev_len hd
 have hdev:=fun V => rdev_any (bs c.name) V (by rw [bs_size]; exact hs)
 rw [bs_list,hd] at hdev
 have HLN:=hid' (show n1 = c.nodes.length∧n2 = c.vals.length∧n3 = c.steps.length by
  obtain ⟨_,_,e1,_⟩:=hc.nodes
  obtain ⟨_,_,e2,_⟩:=hc.vals
  obtain ⟨_,_,e3,_⟩:=hc.steps
  simp only [Value.slice.injEq] at e1 e2 e3
  omega)
 clear hr hc hs hrs hnd
 obtain ⟨cn,cnd,cr,⟨cm,cx⟩,ckd,cvs,css⟩:=c
 unfold cdV
 simp only at hdev hh hq hd ⊢
 obtain ⟨s1,hs1⟩:∃ s,s = bs cn:=⟨_,rfl⟩
 obtain ⟨s3,hs3⟩:∃ s,s = bs cr:=⟨_,rfl⟩
 rw [← hs1,← hs3]
 rw [← hs1] at hdev
 have hsz:0 < s1.size:=by rw [hs1,bs_size]; exact hh
 have hszi:(0:Int) < (s1.size:Int):=by omega
 have HE:=hid' (And.intro hs1 hs3)
 have eh:s1[0].toNat = 99:=by rw [head_of hsz hs1,hq]; rfl
 clear hs1 hs3 hd hh hq
 go_enter Tryz.func28,Tryz.ntmps28
 go_upto_region 1 with fail
 have hK:=(Kept.refl w).alloc (.cells #[.string s1,.slice a1 n1 k1,.string s3,.int .i64 cm,.int .i64 cx,.int .i64 ckd,.slice a2 n2 k2,.slice a3 n3 k3] 32)
 have hA:=RowL.alloc 32 w [.string s1,.slice a1 n1 k1,.string s3,.int .i64 cm,.int .i64 cx,.int .i64 ckd,.slice a2 n2 k2,.slice a3 n3 k3]
 generalize w.alloc (.cells #[.string s1,.slice a1 n1 k1,.string s3,.int .i64 cm,.int .i64 cx,.int .i64 ckd,.slice a2 n2 k2,.slice a3 n3 k3] 32) = W0 at hK hA ⊢
 obtain ⟨p,hp⟩:∃ q,q = w.heap.size:=⟨_,rfl⟩
 rw [← hp] at hA ⊢
 clear hp
 have g0:=hA.cell 0 (.string s1)
 go_wp2_with fail
 refine (hdev _).mono ?_
 rintro e w1 ⟨hk1,rfl⟩
 clear g0 hdev
 have hA:=hA.kept hk1
 have HK:=hid' (hK.trans hk1)
 clear hk1 hK
 have g0:=hA.cell 0 (.string s1)
 have g1:=hA.cell 1 (.slice a1 n1 k1)
 have hzb:(cm != 0) = true:=by simpa using hz
 have g3:=hA.cell 3 (.int .i64 cm)
 have HA:=hid' hA
 clear hA
 by_cases hN:n1 = 2
 rotate_left
 ·
  have hNi:((n1:Int) != 2) = true:=by simp; omega
  go_wp2_with fail
  go_ret
  refine ⟨HK.out,congrArg (fun b => Ending.returned (Value.bool b)) ?_⟩
  symm
  rw [HR.out,Bool.eq_false_iff]
  intro ht
  have:=((tail_iff _ _ _ _ _).1 ht).1
  have:=HLN.out.1
  simp only at *
  omega
 have hNi:((n1:Int) != 2) = false:=by simp; omega
 go_wp2_with fail
 clear g0 g1
 go_loopw [7] (fun vi wr => ∃ j:Nat,j≤n1∧vi = .int .i64 (j:Int)∧Hid (Kept w1 wr∧∀ i,i < j→okName (cnd.getD i []) = true)) (fun vi _ => n1 - (intOf vi).toNat)
 case atStart => exact ⟨0,Nat.zero_le _,rfl,Kept.refl w1,fun i hi => absurd hi (Nat.not_lt_zero _)⟩
 case round =>
  obtain ⟨j,hj,rfl,H⟩:=hrel
  have g1:=(HA.out.kept H.out.1).cell 1 (.slice a1 n1 k1)
  by_cases hlt:j < n1
  ·
   have hltz:(j:Int) < 2:=by omega
   have hltn:(j:Int) < (n1:Int):=by omega
   obtain ⟨ao',cap',hv,hx⟩:=(HC.out.1.nodes.kept HK.out).kept H.out.1
   simp only [Value.slice.injEq] at hv
   obtain ⟨rfl,_,rfl⟩:=hv
   have hnw:n1 = cnd.length:=HLN.out.1
   obtain ⟨b,off,rfl,hb,hcl⟩:=hx (show 0 < cnd.length by omega)
   have q0:wr.cell? ⟨b,off + j,none⟩ = some (.string (bs (cnd.getD j []))):=hcl j (show j < cnd.length by omega)
   obtain ⟨sk,hsk⟩:∃ s,s = bs (cnd.getD j []):=⟨_,rfl⟩
   rw [← hsk] at q0
   have hskl:sk.size≤9223372036854775807:=by
    rw [hsk,bs_size,List.getD_eq_getElem?_getD,List.getElem?_eq_getElem (show j < cnd.length by omega)]
    exact HC.out.2.2.2.1 _ (List.getElem_mem _)
   have HSK:=hid' (show sk.data.toList = cnd.getD j [] by rw [hsk,bs_list])
   clear hx hcl hnw hsk
   go_wp2_with fail
   refine (rname_any sk _ hskl).mono ?_
   rintro e w2 ⟨rfl,rfl⟩
   rw [HSK.out]
   by_cases ho:okName (cnd.getD j []) = true
   ·
    rw [ho]
    have HO:=hid' ho
    clear ho
    go_wp2_with fail
    go_roundw
    case rel =>
     refine ⟨j + 1,by omega,by go_num,H.out.1,fun i hi => ?_⟩
     by_cases e:i = j
     ·
      subst e; exact HO.out
     ·
      exact H.out.2 i (by omega)
    case measure => show n1 - ((j:Int) + 1).toNat < n1 - (j:Int).toNat; omega
   ·
    have ho:okName (cnd.getD j []) = false:=by simpa using ho
    rw [ho]
    have HO:=hid' ho
    clear ho
    go_wp2_with fail
    go_ret
    refine ⟨HK.out.trans H.out.1,congrArg (fun b => Ending.returned (Value.bool b)) ?_⟩
    symm
    rw [HR.out,Bool.eq_false_iff]
    intro ht
    have h2:=((tail_iff _ _ _ _ _).1 ht).2.1 (cnd.getD j []) (by
     have:j < cnd.length:=by have:=HLN.out.1; omega
     rw [List.getD_eq_getElem?_getD,List.getElem?_eq_getElem this]
     exact List.getElem_mem _)
    rw [HO.out] at h2
    exact absurd h2 (by decide)
  ·
   obtain rfl:j = n1:=by omega
   have hltz:¬ (j:Int) < 2:=by omega
   have g2:=(HA.out.kept H.out.1).cell 2 (.string s3)
   have g3:=(HA.out.kept H.out.1).cell 3 (.int .i64 cm)
   have g4:=(HA.out.kept H.out.1).cell 4 (.int .i64 cx)
   have g5:=(HA.out.kept H.out.1).cell 5 (.int .i64 ckd)
   have g6:=(HA.out.kept H.out.1).cell 6 (.slice a2 n2 k2)
   have g7:=(HA.out.kept H.out.1).cell 7 (.slice a3 n3 k3)
   have HT:=hid' (show r = (decide (cr = []) && (okN cm cx && (decide (ckd = 0) && ((n2:Int) + (n3:Int) == 0)))) by
    rw [HR.out]
    unfold tailB
    have h1:decide (cnd.length = 2) = true:=decide_eq_true (by have:=HLN.out.1; omega)
    have h2:cnd.all okName = true:=by
     rw [List.all_eq_true]
     intro x hx
     obtain ⟨i,hi,rfl⟩:=List.getElem_of_mem hx
     have:=H.out.2 i (by have:=HLN.out.1; omega)
     rwa [List.getD_eq_getElem?_getD,List.getElem?_eq_getElem hi] at this
    have h3:decide (ckd = 0∧cvs = []∧css = []) = (decide (ckd = 0) && ((n2:Int) + (n3:Int) == 0)):=by
     rw [HLN.out.2.1,HLN.out.2.2,Bool.eq_iff_iff]
     simp only [Bool.and_eq_true,decide_eq_true_eq,beq_iff_eq]
     constructor
     ·
      rintro ⟨a,b,d⟩
      rw [b,d]
      exact ⟨a,rfl⟩
     ·
      rintro ⟨a,b⟩
      exact ⟨a,List.eq_nil_of_length_eq_zero (by omega),List.eq_nil_of_length_eq_zero (by omega)⟩
    simp only [h1,h2,Bool.true_and,h3,Bool.false_eq_true,if_false,if_true])
   have HKK:=hid' (HK.out.trans H.out.1)
   have e2:IntKind.i64.wrap ((n2:Int) + (n3:Int)) = (n2:Int) + (n3:Int):=by have:=HC.out.2.2.2.2; rw [IntKind.wrap_i64]; omega
   by_cases hcr:cr = []
   rotate_left
   ·
    have hne:(!s3.toList.isEmpty) = true:=by
     rw [HE.out.2,ByteArray.toList_eq,bs_list]
     cases cr with
     | nil => exact absurd rfl hcr
     | cons x t => rfl
    have HV:=hid' hcr
    clear hcr
    go_wp2_with fail
    go_ret
    refine ⟨HKK.out,congrArg (fun b => Ending.returned (Value.bool b)) ?_⟩
    rw [HT.out]
    simp [HV.out]
   have hne:(!s3.toList.isEmpty) = false:=by rw [HE.out.2,ByteArray.toList_eq,bs_list,hcr]; rfl
   subst hcr
   go_wp2_with fail
   refine (RValid_any cm cx _).mono ?_
   rintro e w3 ⟨hk3,rfl⟩
   have HKK:=hid' (HKK.out.trans hk3)
   clear g1 g2 g3 g4 g5 g6 g7
   have hA:=HA.out.kept (H.out.1.trans hk3)
   have g5:=hA.cell 5 (.int .i64 ckd)
   have g6:=hA.cell 6 (.slice a2 n2 k2)
   have g7:=hA.cell 7 (.slice a3 n3 k3)
   clear hA hk3
   by_cases ho:okN cm cx = true
   rotate_left
   ·
    have ho:okN cm cx = false:=by simpa using ho
    rw [ho] at HT ⊢
    clear ho
    go_wp2_with fail
    go_ret
    refine ⟨HKK.out,congrArg (fun b => Ending.returned (Value.bool b)) ?_⟩
    rw [HT.out]
    simp
   rw [ho] at HT ⊢
   clear ho
   by_cases hv:ckd = 0
   rotate_left
   ·
    have hvb:(ckd == 0) = false:=by simpa using hv
    have HV:=hid' hv
    clear hv
    go_wp2_with fail
    go_ret
    refine ⟨HKK.out,congrArg (fun b => Ending.returned (Value.bool b)) ?_⟩
    rw [HT.out]
    simp [HV.out]
   subst hv
   go_wp2_with fail
   go_ret
   refine ⟨HKK.out,congrArg (fun b => Ending.returned (Value.bool b)) ?_⟩
   rw [HT.out]
   simp
set_option maxRecDepth 100000 in
set_option maxHeartbeats 8000000 in
theorem right_l108 (a1 a2 a3:Option Addr) (n1 k1 n2 k2 n3 k3:Nat) (c:Cd) (w:World) (hc:CdR w a1 n1 k1 a2 n2 k2 a3 n3 k3 c) (hd:devB c.name = true) (hq:c.name.getD 0 0 = 108) (hz:c.val.1 ≠ 0) (hs:c.name.length≤9223372036854775807) (hrs:c.ref.length≤9223372036854775807) (hnd:∀ x ∈ c.nodes,x.length≤9223372036854775807) (hn:n1≤1000000000000000000∧n2≤1000000000000000000∧n3≤1000000000000000000) :
  Calls Tryz.prog 28 #[cdV c (.slice a1 n1 k1) (.slice a2 n2 k2) (.slice a3 n3 k3)] w fun e w' => Kept w w'∧e = .returned (.bool (tailB c 2 false true false)):=by
 have HC:=hid' (And.intro hc (And.intro hs (And.intro hrs (And.intro hnd hn))))
 obtain ⟨r,hr⟩:∃ r,r = tailB c 2 false true false:=⟨_,rfl⟩
 rw [← hr]
 have HR:=hid' hr
 have hh:=dev_len hd
 have hdev:=fun V => rdev_any (bs c.name) V (by rw [bs_size]; exact hs)
 rw [bs_list,hd] at hdev
 have HLN:=hid' (show n1 = c.nodes.length∧n2 = c.vals.length∧n3 = c.steps.length by
  obtain ⟨_,_,e1,_⟩:=hc.nodes
  obtain ⟨_,_,e2,_⟩:=hc.vals
  obtain ⟨_,_,e3,_⟩:=hc.steps
  simp only [Value.slice.injEq] at e1 e2 e3
  omega)
 clear hr hc hs hrs hnd
 obtain ⟨cn,cnd,cr,⟨cm,cx⟩,ckd,cvs,css⟩:=c
 unfold cdV
 simp only at hdev hh hq hd ⊢
 obtain ⟨s1,hs1⟩:∃ s,s = bs cn:=⟨_,rfl⟩
 obtain ⟨s3,hs3⟩:∃ s,s = bs cr:=⟨_,rfl⟩
 rw [← hs1,← hs3]
 rw [← hs1] at hdev
 have hsz:0 < s1.size:=by rw [hs1,bs_size]; exact hh
 have hszi:(0:Int) < (s1.size:Int):=by omega
 have HE:=hid' (And.intro hs1 hs3)
 have eh:s1[0].toNat = 108:=by rw [head_of hsz hs1,hq]; rfl
 clear hs1 hs3 hd hh hq
 go_enter Tryz.func28,Tryz.ntmps28
 go_upto_region 1 with fail
 have hK:=(Kept.refl w).alloc (.cells #[.string s1,.slice a1 n1 k1,.string s3,.int .i64 cm,.int .i64 cx,.int .i64 ckd,.slice a2 n2 k2,.slice a3 n3 k3] 32)
 have hA:=RowL.alloc 32 w [.string s1,.slice a1 n1 k1,.string s3,.int .i64 cm,.int .i64 cx,.int .i64 ckd,.slice a2 n2 k2,.slice a3 n3 k3]
 generalize w.alloc (.cells #[.string s1,.slice a1 n1 k1,.string s3,.int .i64 cm,.int .i64 cx,.int .i64 ckd,.slice a2 n2 k2,.slice a3 n3 k3] 32) = W0 at hK hA ⊢
 obtain ⟨p,hp⟩:∃ q,q = w.heap.size:=⟨_,rfl⟩
 rw [← hp] at hA ⊢
 clear hp
 have g0:=hA.cell 0 (.string s1)
 go_wp2_with fail
 refine (hdev _).mono ?_
 rintro e w1 ⟨hk1,rfl⟩
 clear g0 hdev
 have hA:=hA.kept hk1
 have HK:=hid' (hK.trans hk1)
 clear hk1 hK
 have g0:=hA.cell 0 (.string s1)
 have g1:=hA.cell 1 (.slice a1 n1 k1)
 have hzb:(cm != 0) = true:=by simpa using hz
 have g3:=hA.cell 3 (.int .i64 cm)
 have HA:=hid' hA
 clear hA
 by_cases hN:n1 = 2
 rotate_left
 ·
  have hNi:((n1:Int) != 2) = true:=by simp; omega
  go_wp2_with fail
  go_ret
  refine ⟨HK.out,congrArg (fun b => Ending.returned (Value.bool b)) ?_⟩
  symm
  rw [HR.out,Bool.eq_false_iff]
  intro ht
  have:=((tail_iff _ _ _ _ _).1 ht).1
  have:=HLN.out.1
  simp only at *
  omega
 have hNi:((n1:Int) != 2) = false:=by simp; omega
 go_wp2_with fail
 clear g0 g1
 go_loopw [7] (fun vi wr => ∃ j:Nat,j≤n1∧vi = .int .i64 (j:Int)∧Hid (Kept w1 wr∧∀ i,i < j→okName (cnd.getD i []) = true)) (fun vi _ => n1 - (intOf vi).toNat)
 case atStart => exact ⟨0,Nat.zero_le _,rfl,Kept.refl w1,fun i hi => absurd hi (Nat.not_lt_zero _)⟩
 case round =>
  obtain ⟨j,hj,rfl,H⟩:=hrel
  have g1:=(HA.out.kept H.out.1).cell 1 (.slice a1 n1 k1)
  by_cases hlt:j < n1
  ·
   have hltz:(j:Int) < 2:=by omega
   have hltn:(j:Int) < (n1:Int):=by omega
   obtain ⟨ao',cap',hv,hx⟩:=(HC.out.1.nodes.kept HK.out).kept H.out.1
   simp only [Value.slice.injEq] at hv
   obtain ⟨rfl,_,rfl⟩:=hv
   have hnw:n1 = cnd.length:=HLN.out.1
   obtain ⟨b,off,rfl,hb,hcl⟩:=hx (show 0 < cnd.length by omega)
   have q0:wr.cell? ⟨b,off + j,none⟩ = some (.string (bs (cnd.getD j []))):=hcl j (show j < cnd.length by omega)
   obtain ⟨sk,hsk⟩:∃ s,s = bs (cnd.getD j []):=⟨_,rfl⟩
   rw [← hsk] at q0
   have hskl:sk.size≤9223372036854775807:=by
    rw [hsk,bs_size,List.getD_eq_getElem?_getD,List.getElem?_eq_getElem (show j < cnd.length by omega)]
    exact HC.out.2.2.2.1 _ (List.getElem_mem _)
   have HSK:=hid' (show sk.data.toList = cnd.getD j [] by rw [hsk,bs_list])
   clear hx hcl hnw hsk
   go_wp2_with fail
   refine (rname_any sk _ hskl).mono ?_
   rintro e w2 ⟨rfl,rfl⟩
   rw [HSK.out]
   by_cases ho:okName (cnd.getD j []) = true
   ·
    rw [ho]
    have HO:=hid' ho
    clear ho
    go_wp2_with fail
    go_roundw
    case rel =>
     refine ⟨j + 1,by omega,by go_num,H.out.1,fun i hi => ?_⟩
     by_cases e:i = j
     ·
      subst e; exact HO.out
     ·
      exact H.out.2 i (by omega)
    case measure => show n1 - ((j:Int) + 1).toNat < n1 - (j:Int).toNat; omega
   ·
    have ho:okName (cnd.getD j []) = false:=by simpa using ho
    rw [ho]
    have HO:=hid' ho
    clear ho
    go_wp2_with fail
    go_ret
    refine ⟨HK.out.trans H.out.1,congrArg (fun b => Ending.returned (Value.bool b)) ?_⟩
    symm
    rw [HR.out,Bool.eq_false_iff]
    intro ht
    have h2:=((tail_iff _ _ _ _ _).1 ht).2.1 (cnd.getD j []) (by
     have:j < cnd.length:=by have:=HLN.out.1; omega
     rw [List.getD_eq_getElem?_getD,List.getElem?_eq_getElem this]
     exact List.getElem_mem _)
    rw [HO.out] at h2
    exact absurd h2 (by decide)
  ·
   obtain rfl:j = n1:=by omega
   have hltz:¬ (j:Int) < 2:=by omega
   have g2:=(HA.out.kept H.out.1).cell 2 (.string s3)
   have g3:=(HA.out.kept H.out.1).cell 3 (.int .i64 cm)
   have g4:=(HA.out.kept H.out.1).cell 4 (.int .i64 cx)
   have g5:=(HA.out.kept H.out.1).cell 5 (.int .i64 ckd)
   have g6:=(HA.out.kept H.out.1).cell 6 (.slice a2 n2 k2)
   have g7:=(HA.out.kept H.out.1).cell 7 (.slice a3 n3 k3)
   have HT:=hid' (show r = (decide (cr = []) && (okN cm cx && (decide (ckd = 0) && ((n2:Int) + (n3:Int) == 0)))) by
    rw [HR.out]
    unfold tailB
    have h1:decide (cnd.length = 2) = true:=decide_eq_true (by have:=HLN.out.1; omega)
    have h2:cnd.all okName = true:=by
     rw [List.all_eq_true]
     intro x hx
     obtain ⟨i,hi,rfl⟩:=List.getElem_of_mem hx
     have:=H.out.2 i (by have:=HLN.out.1; omega)
     rwa [List.getD_eq_getElem?_getD,List.getElem?_eq_getElem hi] at this
    have h3:decide (ckd = 0∧cvs = []∧css = []) = (decide (ckd = 0) && ((n2:Int) + (n3:Int) == 0)):=by
     rw [HLN.out.2.1,HLN.out.2.2,Bool.eq_iff_iff]
     simp only [Bool.and_eq_true,decide_eq_true_eq,beq_iff_eq]
     constructor
     ·
      rintro ⟨a,b,d⟩
      rw [b,d]
      exact ⟨a,rfl⟩
     ·
      rintro ⟨a,b⟩
      exact ⟨a,List.eq_nil_of_length_eq_zero (by omega),List.eq_nil_of_length_eq_zero (by omega)⟩
    simp only [h1,h2,Bool.true_and,h3,Bool.false_eq_true,if_false,if_true])
   have HKK:=hid' (HK.out.trans H.out.1)
   have e2:IntKind.i64.wrap ((n2:Int) + (n3:Int)) = (n2:Int) + (n3:Int):=by have:=HC.out.2.2.2.2; rw [IntKind.wrap_i64]; omega
   by_cases hcr:cr = []
   rotate_left
   ·
    have hne:(!s3.toList.isEmpty) = true:=by
     rw [HE.out.2,ByteArray.toList_eq,bs_list]
     cases cr with
     | nil => exact absurd rfl hcr
     | cons x t => rfl
    have HV:=hid' hcr
    clear hcr
    go_wp2_with fail
    go_ret
    refine ⟨HKK.out,congrArg (fun b => Ending.returned (Value.bool b)) ?_⟩
    rw [HT.out]
    simp [HV.out]
   have hne:(!s3.toList.isEmpty) = false:=by rw [HE.out.2,ByteArray.toList_eq,bs_list,hcr]; rfl
   subst hcr
   go_wp2_with fail
   refine (RValid_any cm cx _).mono ?_
   rintro e w3 ⟨hk3,rfl⟩
   have HKK:=hid' (HKK.out.trans hk3)
   clear g1 g2 g3 g4 g5 g6 g7
   have hA:=HA.out.kept (H.out.1.trans hk3)
   have g5:=hA.cell 5 (.int .i64 ckd)
   have g6:=hA.cell 6 (.slice a2 n2 k2)
   have g7:=hA.cell 7 (.slice a3 n3 k3)
   clear hA hk3
   by_cases ho:okN cm cx = true
   rotate_left
   ·
    have ho:okN cm cx = false:=by simpa using ho
    rw [ho] at HT ⊢
    clear ho
    go_wp2_with fail
    go_ret
    refine ⟨HKK.out,congrArg (fun b => Ending.returned (Value.bool b)) ?_⟩
    rw [HT.out]
    simp
   rw [ho] at HT ⊢
   clear ho
   by_cases hv:ckd = 0
   rotate_left
   ·
    have hvb:(ckd == 0) = false:=by simpa using hv
    have HV:=hid' hv
    clear hv
    go_wp2_with fail
    go_ret
    refine ⟨HKK.out,congrArg (fun b => Ending.returned (Value.bool b)) ?_⟩
    rw [HT.out]
    simp [HV.out]
   subst hv
   go_wp2_with fail
   go_ret
   refine ⟨HKK.out,congrArg (fun b => Ending.returned (Value.bool b)) ?_⟩
   rw [HT.out]
   simp
end V
end Go.Proofs.YtembglnonhlnkaaGreatDoor

namespace Go.Proofs.YtembglnonhlnkaaGreatDoor
open Go.RowKit
namespace V
open Q (hid' parseOf okN textOf RValid_any)
open X (bs OwnS RS strs bs_list bs_size)
set_option maxRecDepth 100000 in
set_option maxHeartbeats 8000000 in
theorem right_l102 (a1 a2 a3:Option Addr) (n1 k1 n2 k2 n3 k3:Nat) (c:Cd) (w:World) (hc:CdR w a1 n1 k1 a2 n2 k2 a3 n3 k3 c) (hd:devB c.name = true) (hq:c.name.getD 0 0 = 102) (hz:¬ (c.ref.length = 0 ∨ c.ref.getD 0 0 ≠ 118)) (hs:c.name.length≤9223372036854775807) (hrs:c.ref.length≤9223372036854775807) (hnd:∀ x ∈ c.nodes,x.length≤9223372036854775807) (hn:n1≤1000000000000000000∧n2≤1000000000000000000∧n3≤1000000000000000000) :
  Calls Tryz.prog 28 #[cdV c (.slice a1 n1 k1) (.slice a2 n2 k2) (.slice a3 n3 k3)] w fun e w' => Kept w w'∧e = .returned (.bool (tailB c 2 true true false)):=by
 have HC:=hid' (And.intro hc (And.intro hs (And.intro hrs (And.intro hnd hn))))
 obtain ⟨r,hr⟩:∃ r,r = tailB c 2 true true false:=⟨_,rfl⟩
 rw [← hr]
 have HR:=hid' hr
 have hh:=dev_len hd
 have hdev:=fun V => rdev_any (bs c.name) V (by rw [bs_size]; exact hs)
 rw [bs_list,hd] at hdev
 have HLN:=hid' (show n1 = c.nodes.length∧n2 = c.vals.length∧n3 = c.steps.length by
  obtain ⟨_,_,e1,_⟩:=hc.nodes
  obtain ⟨_,_,e2,_⟩:=hc.vals
  obtain ⟨_,_,e3,_⟩:=hc.steps
  simp only [Value.slice.injEq] at e1 e2 e3
  omega)
 clear hr hc hs hrs hnd
 obtain ⟨cn,cnd,cr,⟨cm,cx⟩,ckd,cvs,css⟩:=c
 unfold cdV
 simp only at hdev hh hq hd ⊢
 obtain ⟨s1,hs1⟩:∃ s,s = bs cn:=⟨_,rfl⟩
 obtain ⟨s3,hs3⟩:∃ s,s = bs cr:=⟨_,rfl⟩
 rw [← hs1,← hs3]
 rw [← hs1] at hdev
 have hsz:0 < s1.size:=by rw [hs1,bs_size]; exact hh
 have hszi:(0:Int) < (s1.size:Int):=by omega
 have HE:=hid' (And.intro hs1 hs3)
 have eh:s1[0].toNat = 102:=by rw [head_of hsz hs1,hq]; rfl
 clear hs1 hs3 hd hh hq
 go_enter Tryz.func28,Tryz.ntmps28
 go_upto_region 1 with fail
 have hK:=(Kept.refl w).alloc (.cells #[.string s1,.slice a1 n1 k1,.string s3,.int .i64 cm,.int .i64 cx,.int .i64 ckd,.slice a2 n2 k2,.slice a3 n3 k3] 32)
 have hA:=RowL.alloc 32 w [.string s1,.slice a1 n1 k1,.string s3,.int .i64 cm,.int .i64 cx,.int .i64 ckd,.slice a2 n2 k2,.slice a3 n3 k3]
 generalize w.alloc (.cells #[.string s1,.slice a1 n1 k1,.string s3,.int .i64 cm,.int .i64 cx,.int .i64 ckd,.slice a2 n2 k2,.slice a3 n3 k3] 32) = W0 at hK hA ⊢
 obtain ⟨p,hp⟩:∃ q,q = w.heap.size:=⟨_,rfl⟩
 rw [← hp] at hA ⊢
 clear hp
 have g0:=hA.cell 0 (.string s1)
 go_wp2_with fail
 refine (hdev _).mono ?_
 rintro e w1 ⟨hk1,rfl⟩
 clear g0 hdev
 have hA:=hA.kept hk1
 have HK:=hid' (hK.trans hk1)
 clear hk1 hK
 have g0:=hA.cell 0 (.string s1)
 have g1:=hA.cell 1 (.slice a1 n1 k1)
 have hz':¬ (cr.length = 0 ∨ cr.getD 0 0 ≠ 118):=hz
 have hr1:0 < s3.size:=by rw [HE.out.2,bs_size]; omega
 have hr2:(0:Int) < (s3.size:Int):=by omega
 have hr5:¬ (s3.size:Int) = 0:=by omega
 have hr3:((s3.size:Int) == 0) = false:=beq_eq_false_iff_ne.2 hr5
 have hr4:s3[0].toNat = 118:=by
  rw [head_of hr1 HE.out.2]
  by_cases h:cr.getD 0 0 = 118
  ·
   rw [h]; rfl
  ·
   exact absurd (.inr h) hz'
 have g2:=hA.cell 2 (.string s3)
 clear hz hz'
 have HA:=hid' hA
 clear hA
 by_cases hN:n1 = 2
 rotate_left
 ·
  have hNi:((n1:Int) != 2) = true:=by simp; omega
  go_wp2_with fail
  go_ret
  refine ⟨HK.out,congrArg (fun b => Ending.returned (Value.bool b)) ?_⟩
  symm
  rw [HR.out,Bool.eq_false_iff]
  intro ht
  have:=((tail_iff _ _ _ _ _).1 ht).1
  have:=HLN.out.1
  simp only at *
  omega
 have hNi:((n1:Int) != 2) = false:=by simp; omega
 go_wp2_with fail
 clear g0 g1
 go_loopw [7] (fun vi wr => ∃ j:Nat,j≤n1∧vi = .int .i64 (j:Int)∧Hid (Kept w1 wr∧∀ i,i < j→okName (cnd.getD i []) = true)) (fun vi _ => n1 - (intOf vi).toNat)
 case atStart => exact ⟨0,Nat.zero_le _,rfl,Kept.refl w1,fun i hi => absurd hi (Nat.not_lt_zero _)⟩
 case round =>
  obtain ⟨j,hj,rfl,H⟩:=hrel
  have g1:=(HA.out.kept H.out.1).cell 1 (.slice a1 n1 k1)
  by_cases hlt:j < n1
  ·
   have hltz:(j:Int) < 2:=by omega
   have hltn:(j:Int) < (n1:Int):=by omega
   obtain ⟨ao',cap',hv,hx⟩:=(HC.out.1.nodes.kept HK.out).kept H.out.1
   simp only [Value.slice.injEq] at hv
   obtain ⟨rfl,_,rfl⟩:=hv
   have hnw:n1 = cnd.length:=HLN.out.1
   obtain ⟨b,off,rfl,hb,hcl⟩:=hx (show 0 < cnd.length by omega)
   have q0:wr.cell? ⟨b,off + j,none⟩ = some (.string (bs (cnd.getD j []))):=hcl j (show j < cnd.length by omega)
   obtain ⟨sk,hsk⟩:∃ s,s = bs (cnd.getD j []):=⟨_,rfl⟩
   rw [← hsk] at q0
   have hskl:sk.size≤9223372036854775807:=by
    rw [hsk,bs_size,List.getD_eq_getElem?_getD,List.getElem?_eq_getElem (show j < cnd.length by omega)]
    exact HC.out.2.2.2.1 _ (List.getElem_mem _)
   have HSK:=hid' (show sk.data.toList = cnd.getD j [] by rw [hsk,bs_list])
   clear hx hcl hnw hsk
   go_wp2_with fail
   refine (rname_any sk _ hskl).mono ?_
   rintro e w2 ⟨rfl,rfl⟩
   rw [HSK.out]
   by_cases ho:okName (cnd.getD j []) = true
   ·
    rw [ho]
    have HO:=hid' ho
    clear ho
    go_wp2_with fail
    go_roundw
    case rel =>
     refine ⟨j + 1,by omega,by go_num,H.out.1,fun i hi => ?_⟩
     by_cases e:i = j
     ·
      subst e; exact HO.out
     ·
      exact H.out.2 i (by omega)
    case measure => show n1 - ((j:Int) + 1).toNat < n1 - (j:Int).toNat; omega
   ·
    have ho:okName (cnd.getD j []) = false:=by simpa using ho
    rw [ho]
    have HO:=hid' ho
    clear ho
    go_wp2_with fail
    go_ret
    refine ⟨HK.out.trans H.out.1,congrArg (fun b => Ending.returned (Value.bool b)) ?_⟩
    symm
    rw [HR.out,Bool.eq_false_iff]
    intro ht
    have h2:=((tail_iff _ _ _ _ _).1 ht).2.1 (cnd.getD j []) (by
     have:j < cnd.length:=by have:=HLN.out.1; omega
     rw [List.getD_eq_getElem?_getD,List.getElem?_eq_getElem this]
     exact List.getElem_mem _)
    rw [HO.out] at h2
    exact absurd h2 (by decide)
  ·
   obtain rfl:j = n1:=by omega
   have hltz:¬ (j:Int) < 2:=by omega
   have g2:=(HA.out.kept H.out.1).cell 2 (.string s3)
   have g3:=(HA.out.kept H.out.1).cell 3 (.int .i64 cm)
   have g4:=(HA.out.kept H.out.1).cell 4 (.int .i64 cx)
   have g5:=(HA.out.kept H.out.1).cell 5 (.int .i64 ckd)
   have g6:=(HA.out.kept H.out.1).cell 6 (.slice a2 n2 k2)
   have g7:=(HA.out.kept H.out.1).cell 7 (.slice a3 n3 k3)
   have HT:=hid' (show r = (okName cr && (okN cm cx && (decide (ckd = 0) && ((n2:Int) + (n3:Int) == 0)))) by
    rw [HR.out]
    unfold tailB
    have h1:decide (cnd.length = 2) = true:=decide_eq_true (by have:=HLN.out.1; omega)
    have h2:cnd.all okName = true:=by
     rw [List.all_eq_true]
     intro x hx
     obtain ⟨i,hi,rfl⟩:=List.getElem_of_mem hx
     have:=H.out.2 i (by have:=HLN.out.1; omega)
     rwa [List.getD_eq_getElem?_getD,List.getElem?_eq_getElem hi] at this
    have h3:decide (ckd = 0∧cvs = []∧css = []) = (decide (ckd = 0) && ((n2:Int) + (n3:Int) == 0)):=by
     rw [HLN.out.2.1,HLN.out.2.2,Bool.eq_iff_iff]
     simp only [Bool.and_eq_true,decide_eq_true_eq,beq_iff_eq]
     constructor
     ·
      rintro ⟨a,b,d⟩
      rw [b,d]
      exact ⟨a,rfl⟩
     ·
      rintro ⟨a,b⟩
      exact ⟨a,List.eq_nil_of_length_eq_zero (by omega),List.eq_nil_of_length_eq_zero (by omega)⟩
    simp only [h1,h2,Bool.true_and,h3,Bool.false_eq_true,if_false,if_true])
   have HKK:=hid' (HK.out.trans H.out.1)
   have e2:IntKind.i64.wrap ((n2:Int) + (n3:Int)) = (n2:Int) + (n3:Int):=by have:=HC.out.2.2.2.2; rw [IntKind.wrap_i64]; omega
   have hs3:s3.size≤9223372036854775807:=by rw [HE.out.2,bs_size]; exact HC.out.2.2.1
   have HS3:=hid' (show s3.data.toList = cr by rw [HE.out.2,bs_list])
   go_wp2_with fail
   refine (rname_any s3 _ hs3).mono ?_
   rintro e w2 ⟨rfl,rfl⟩
   rw [HS3.out]
   by_cases ho:okName cr = true
   rotate_left
   ·
    have ho:okName cr = false:=by simpa using ho
    rw [ho] at HT ⊢
    clear ho
    go_wp2_with fail
    go_ret
    refine ⟨HKK.out,congrArg (fun b => Ending.returned (Value.bool b)) ?_⟩
    rw [HT.out]
    rfl
   rw [ho] at HT ⊢
   clear ho
   go_wp2_with fail
   refine (RValid_any cm cx _).mono ?_
   rintro e w3 ⟨hk3,rfl⟩
   have HKK:=hid' (HKK.out.trans hk3)
   clear g1 g2 g3 g4 g5 g6 g7
   have hA:=HA.out.kept (H.out.1.trans hk3)
   have g5:=hA.cell 5 (.int .i64 ckd)
   have g6:=hA.cell 6 (.slice a2 n2 k2)
   have g7:=hA.cell 7 (.slice a3 n3 k3)
   clear hA hk3
   by_cases ho:okN cm cx = true
   rotate_left
   ·
    have ho:okN cm cx = false:=by simpa using ho
    rw [ho] at HT ⊢
    clear ho
    go_wp2_with fail
    go_ret
    refine ⟨HKK.out,congrArg (fun b => Ending.returned (Value.bool b)) ?_⟩
    rw [HT.out]
    simp
   rw [ho] at HT ⊢
   clear ho
   by_cases hv:ckd = 0
   rotate_left
   ·
    have hvb:(ckd == 0) = false:=by simpa using hv
    have HV:=hid' hv
    clear hv
    go_wp2_with fail
    go_ret
    refine ⟨HKK.out,congrArg (fun b => Ending.returned (Value.bool b)) ?_⟩
    rw [HT.out]
    simp [HV.out]
   subst hv
   go_wp2_with fail
   go_ret
   refine ⟨HKK.out,congrArg (fun b => Ending.returned (Value.bool b)) ?_⟩
   rw [HT.out]
   simp
set_option maxRecDepth 100000 in
set_option maxHeartbeats 8000000 in
theorem right_l104 (a1 a2 a3:Option Addr) (n1 k1 n2 k2 n3 k3:Nat) (c:Cd) (w:World) (hc:CdR w a1 n1 k1 a2 n2 k2 a3 n3 k3 c) (hd:devB c.name = true) (hq:c.name.getD 0 0 = 104) (hz:¬ (c.ref.length = 0 ∨ c.ref.getD 0 0 ≠ 118)) (hs:c.name.length≤9223372036854775807) (hrs:c.ref.length≤9223372036854775807) (hnd:∀ x ∈ c.nodes,x.length≤9223372036854775807) (hn:n1≤1000000000000000000∧n2≤1000000000000000000∧n3≤1000000000000000000) :
  Calls Tryz.prog 28 #[cdV c (.slice a1 n1 k1) (.slice a2 n2 k2) (.slice a3 n3 k3)] w fun e w' => Kept w w'∧e = .returned (.bool (tailB c 2 true true false)):=by
 have HC:=hid' (And.intro hc (And.intro hs (And.intro hrs (And.intro hnd hn))))
 obtain ⟨r,hr⟩:∃ r,r = tailB c 2 true true false:=⟨_,rfl⟩
 rw [← hr]
 have HR:=hid' hr
 have hh:=dev_len hd
 have hdev:=fun V => rdev_any (bs c.name) V (by rw [bs_size]; exact hs)
 rw [bs_list,hd] at hdev
 have HLN:=hid' (show n1 = c.nodes.length∧n2 = c.vals.length∧n3 = c.steps.length by
  obtain ⟨_,_,e1,_⟩:=hc.nodes
  obtain ⟨_,_,e2,_⟩:=hc.vals
  obtain ⟨_,_,e3,_⟩:=hc.steps
  simp only [Value.slice.injEq] at e1 e2 e3
  omega)
 clear hr hc hs hrs hnd
 obtain ⟨cn,cnd,cr,⟨cm,cx⟩,ckd,cvs,css⟩:=c
 unfold cdV
 simp only at hdev hh hq hd ⊢
 obtain ⟨s1,hs1⟩:∃ s,s = bs cn:=⟨_,rfl⟩
 obtain ⟨s3,hs3⟩:∃ s,s = bs cr:=⟨_,rfl⟩
 rw [← hs1,← hs3]
 rw [← hs1] at hdev
 have hsz:0 < s1.size:=by rw [hs1,bs_size]; exact hh
 have hszi:(0:Int) < (s1.size:Int):=by omega
 have HE:=hid' (And.intro hs1 hs3)
 have eh:s1[0].toNat = 104:=by rw [head_of hsz hs1,hq]; rfl
 clear hs1 hs3 hd hh hq
 go_enter Tryz.func28,Tryz.ntmps28
 go_upto_region 1 with fail
 have hK:=(Kept.refl w).alloc (.cells #[.string s1,.slice a1 n1 k1,.string s3,.int .i64 cm,.int .i64 cx,.int .i64 ckd,.slice a2 n2 k2,.slice a3 n3 k3] 32)
 have hA:=RowL.alloc 32 w [.string s1,.slice a1 n1 k1,.string s3,.int .i64 cm,.int .i64 cx,.int .i64 ckd,.slice a2 n2 k2,.slice a3 n3 k3]
 generalize w.alloc (.cells #[.string s1,.slice a1 n1 k1,.string s3,.int .i64 cm,.int .i64 cx,.int .i64 ckd,.slice a2 n2 k2,.slice a3 n3 k3] 32) = W0 at hK hA ⊢
 obtain ⟨p,hp⟩:∃ q,q = w.heap.size:=⟨_,rfl⟩
 rw [← hp] at hA ⊢
 clear hp
 have g0:=hA.cell 0 (.string s1)
 go_wp2_with fail
 refine (hdev _).mono ?_
 rintro e w1 ⟨hk1,rfl⟩
 clear g0 hdev
 have hA:=hA.kept hk1
 have HK:=hid' (hK.trans hk1)
 clear hk1 hK
 have g0:=hA.cell 0 (.string s1)
 have g1:=hA.cell 1 (.slice a1 n1 k1)
 have hz':¬ (cr.length = 0 ∨ cr.getD 0 0 ≠ 118):=hz
 have hr1:0 < s3.size:=by rw [HE.out.2,bs_size]; omega
 have hr2:(0:Int) < (s3.size:Int):=by omega
 have hr5:¬ (s3.size:Int) = 0:=by omega
 have hr3:((s3.size:Int) == 0) = false:=beq_eq_false_iff_ne.2 hr5
 have hr4:s3[0].toNat = 118:=by
  rw [head_of hr1 HE.out.2]
  by_cases h:cr.getD 0 0 = 118
  ·
   rw [h]; rfl
  ·
   exact absurd (.inr h) hz'
 have g2:=hA.cell 2 (.string s3)
 clear hz hz'
 have HA:=hid' hA
 clear hA
 by_cases hN:n1 = 2
 rotate_left
 ·
  have hNi:((n1:Int) != 2) = true:=by simp; omega
  go_wp2_with fail
  go_ret
  refine ⟨HK.out,congrArg (fun b => Ending.returned (Value.bool b)) ?_⟩
  symm
  rw [HR.out,Bool.eq_false_iff]
  intro ht
  have:=((tail_iff _ _ _ _ _).1 ht).1
  have:=HLN.out.1
  simp only at *
  omega
 have hNi:((n1:Int) != 2) = false:=by simp; omega
 go_wp2_with fail
 clear g0 g1
 go_loopw [7] (fun vi wr => ∃ j:Nat,j≤n1∧vi = .int .i64 (j:Int)∧Hid (Kept w1 wr∧∀ i,i < j→okName (cnd.getD i []) = true)) (fun vi _ => n1 - (intOf vi).toNat)
 case atStart => exact ⟨0,Nat.zero_le _,rfl,Kept.refl w1,fun i hi => absurd hi (Nat.not_lt_zero _)⟩
 case round =>
  obtain ⟨j,hj,rfl,H⟩:=hrel
  have g1:=(HA.out.kept H.out.1).cell 1 (.slice a1 n1 k1)
  by_cases hlt:j < n1
  ·
   have hltz:(j:Int) < 2:=by omega
   have hltn:(j:Int) < (n1:Int):=by omega
   obtain ⟨ao',cap',hv,hx⟩:=(HC.out.1.nodes.kept HK.out).kept H.out.1
   simp only [Value.slice.injEq] at hv
   obtain ⟨rfl,_,rfl⟩:=hv
   have hnw:n1 = cnd.length:=HLN.out.1
   obtain ⟨b,off,rfl,hb,hcl⟩:=hx (show 0 < cnd.length by omega)
   have q0:wr.cell? ⟨b,off + j,none⟩ = some (.string (bs (cnd.getD j []))):=hcl j (show j < cnd.length by omega)
   obtain ⟨sk,hsk⟩:∃ s,s = bs (cnd.getD j []):=⟨_,rfl⟩
   rw [← hsk] at q0
   have hskl:sk.size≤9223372036854775807:=by
    rw [hsk,bs_size,List.getD_eq_getElem?_getD,List.getElem?_eq_getElem (show j < cnd.length by omega)]
    exact HC.out.2.2.2.1 _ (List.getElem_mem _)
   have HSK:=hid' (show sk.data.toList = cnd.getD j [] by rw [hsk,bs_list])
   clear hx hcl hnw hsk
   go_wp2_with fail
   refine (rname_any sk _ hskl).mono ?_
   rintro e w2 ⟨rfl,rfl⟩
   rw [HSK.out]
   by_cases ho:okName (cnd.getD j []) = true
   ·
    rw [ho]
    have HO:=hid' ho
    clear ho
    go_wp2_with fail
    go_roundw
    case rel =>
     refine ⟨j + 1,by omega,by go_num,H.out.1,fun i hi => ?_⟩
     by_cases e:i = j
     ·
      subst e; exact HO.out
     ·
      exact H.out.2 i (by omega)
    case measure => show n1 - ((j:Int) + 1).toNat < n1 - (j:Int).toNat; omega
   ·
    have ho:okName (cnd.getD j []) = false:=by simpa using ho
    rw [ho]
    have HO:=hid' ho
    clear ho
    go_wp2_with fail
    go_ret
    refine ⟨HK.out.trans H.out.1,congrArg (fun b => Ending.returned (Value.bool b)) ?_⟩
    symm
    rw [HR.out,Bool.eq_false_iff]
    intro ht
    have h2:=((tail_iff _ _ _ _ _).1 ht).2.1 (cnd.getD j []) (by
     have:j < cnd.length:=by have:=HLN.out.1; omega
     rw [List.getD_eq_getElem?_getD,List.getElem?_eq_getElem this]
     exact List.getElem_mem _)
    rw [HO.out] at h2
    exact absurd h2 (by decide)
  ·
   obtain rfl:j = n1:=by omega
   have hltz:¬ (j:Int) < 2:=by omega
   have g2:=(HA.out.kept H.out.1).cell 2 (.string s3)
   have g3:=(HA.out.kept H.out.1).cell 3 (.int .i64 cm)
   have g4:=(HA.out.kept H.out.1).cell 4 (.int .i64 cx)
   have g5:=(HA.out.kept H.out.1).cell 5 (.int .i64 ckd)
   have g6:=(HA.out.kept H.out.1).cell 6 (.slice a2 n2 k2)
   have g7:=(HA.out.kept H.out.1).cell 7 (.slice a3 n3 k3)
   have HT:=hid' (show r = (okName cr && (okN cm cx && (decide (ckd = 0) && ((n2:Int) + (n3:Int) == 0)))) by
    rw [HR.out]
    unfold tailB
    have h1:decide (cnd.length = 2) = true:=decide_eq_true (by have:=HLN.out.1; omega)
    have h2:cnd.all okName = true:=by
     rw [List.all_eq_true]
     intro x hx
     obtain ⟨i,hi,rfl⟩:=List.getElem_of_mem hx
     have:=H.out.2 i (by have:=HLN.out.1; omega)
     rwa [List.getD_eq_getElem?_getD,List.getElem?_eq_getElem hi] at this
    have h3:decide (ckd = 0∧cvs = []∧css = []) = (decide (ckd = 0) && ((n2:Int) + (n3:Int) == 0)):=by
     rw [HLN.out.2.1,HLN.out.2.2,Bool.eq_iff_iff]
     simp only [Bool.and_eq_true,decide_eq_true_eq,beq_iff_eq]
     constructor
     ·
      rintro ⟨a,b,d⟩
      rw [b,d]
      exact ⟨a,rfl⟩
     ·
      rintro ⟨a,b⟩
      exact ⟨a,List.eq_nil_of_length_eq_zero (by omega),List.eq_nil_of_length_eq_zero (by omega)⟩
    simp only [h1,h2,Bool.true_and,h3,Bool.false_eq_true,if_false,if_true])
   have HKK:=hid' (HK.out.trans H.out.1)
   have e2:IntKind.i64.wrap ((n2:Int) + (n3:Int)) = (n2:Int) + (n3:Int):=by have:=HC.out.2.2.2.2; rw [IntKind.wrap_i64]; omega
   have hs3:s3.size≤9223372036854775807:=by rw [HE.out.2,bs_size]; exact HC.out.2.2.1
   have HS3:=hid' (show s3.data.toList = cr by rw [HE.out.2,bs_list])
   go_wp2_with fail
   refine (rname_any s3 _ hs3).mono ?_
   rintro e w2 ⟨rfl,rfl⟩
   rw [HS3.out]
   by_cases ho:okName cr = true
   rotate_left
   ·
    have ho:okName cr = false:=by simpa using ho
    rw [ho] at HT ⊢
    clear ho
    go_wp2_with fail
    go_ret
    refine ⟨HKK.out,congrArg (fun b => Ending.returned (Value.bool b)) ?_⟩
    rw [HT.out]
    rfl
   rw [ho] at HT ⊢
   clear ho
   go_wp2_with fail
   refine (RValid_any cm cx _).mono ?_
   rintro e w3 ⟨hk3,rfl⟩
   have HKK:=hid' (HKK.out.trans hk3)
   clear g1 g2 g3 g4 g5 g6 g7
   have hA:=HA.out.kept (H.out.1.trans hk3)
   have g5:=hA.cell 5 (.int .i64 ckd)
   have g6:=hA.cell 6 (.slice a2 n2 k2)
   have g7:=hA.cell 7 (.slice a3 n3 k3)
   clear hA hk3
   by_cases ho:okN cm cx = true
   rotate_left
   ·
    have ho:okN cm cx = false:=by simpa using ho
    rw [ho] at HT ⊢
    clear ho
    go_wp2_with fail
    go_ret
    refine ⟨HKK.out,congrArg (fun b => Ending.returned (Value.bool b)) ?_⟩
    rw [HT.out]
    simp
   rw [ho] at HT ⊢
   clear ho
   by_cases hv:ckd = 0
   rotate_left
   ·
    have hvb:(ckd == 0) = false:=by simpa using hv
    have HV:=hid' hv
    clear hv
    go_wp2_with fail
    go_ret
    refine ⟨HKK.out,congrArg (fun b => Ending.returned (Value.bool b)) ?_⟩
    rw [HT.out]
    simp [HV.out]
   subst hv
   go_wp2_with fail
   go_ret
   refine ⟨HKK.out,congrArg (fun b => Ending.returned (Value.bool b)) ?_⟩
   rw [HT.out]
   simp
end V
end Go.Proofs.YtembglnonhlnkaaGreatDoor

namespace Go.Proofs.YtembglnonhlnkaaGreatDoor
open Go.RowKit
namespace V
open Q (hid' parseOf okN textOf RValid_any)
open X (bs OwnS RS strs bs_list bs_size)
set_option maxRecDepth 100000 in
set_option maxHeartbeats 8000000 in
theorem right_l120 (a1 a2 a3:Option Addr) (n1 k1 n2 k2 n3 k3:Nat) (c:Cd) (w:World) (hc:CdR w a1 n1 k1 a2 n2 k2 a3 n3 k3 c) (hd:devB c.name = true) (hq:c.name.getD 0 0 = 120) (hz:1≤n1∧n1≤8) (hs:c.name.length≤9223372036854775807) (hrs:c.ref.length≤9223372036854775807) (hnd:∀ x ∈ c.nodes,x.length≤9223372036854775807) (hn:n1≤1000000000000000000∧n2≤1000000000000000000∧n3≤1000000000000000000) :
  Calls Tryz.prog 28 #[cdV c (.slice a1 n1 k1) (.slice a2 n2 k2) (.slice a3 n3 k3)] w fun e w' => Kept w w'∧e = .returned (.bool (tailB c c.nodes.length true false false)):=by
 have HC:=hid' (And.intro hc (And.intro hs (And.intro hrs (And.intro hnd hn))))
 obtain ⟨r,hr⟩:∃ r,r = tailB c c.nodes.length true false false:=⟨_,rfl⟩
 rw [← hr]
 have HR:=hid' hr
 have hh:=dev_len hd
 have hdev:=fun V => rdev_any (bs c.name) V (by rw [bs_size]; exact hs)
 rw [bs_list,hd] at hdev
 have HLN:=hid' (show n1 = c.nodes.length∧n2 = c.vals.length∧n3 = c.steps.length by
  obtain ⟨_,_,e1,_⟩:=hc.nodes
  obtain ⟨_,_,e2,_⟩:=hc.vals
  obtain ⟨_,_,e3,_⟩:=hc.steps
  simp only [Value.slice.injEq] at e1 e2 e3
  omega)
 clear hr hc hs hrs hnd
 obtain ⟨cn,cnd,cr,⟨cm,cx⟩,ckd,cvs,css⟩:=c
 unfold cdV
 simp only at hdev hh hq hd ⊢
 obtain ⟨s1,hs1⟩:∃ s,s = bs cn:=⟨_,rfl⟩
 obtain ⟨s3,hs3⟩:∃ s,s = bs cr:=⟨_,rfl⟩
 rw [← hs1,← hs3]
 rw [← hs1] at hdev
 have hsz:0 < s1.size:=by rw [hs1,bs_size]; exact hh
 have hszi:(0:Int) < (s1.size:Int):=by omega
 have HE:=hid' (And.intro hs1 hs3)
 have eh:s1[0].toNat = 120:=by rw [head_of hsz hs1,hq]; rfl
 clear hs1 hs3 hd hh hq
 go_enter Tryz.func28,Tryz.ntmps28
 go_upto_region 1 with fail
 have hK:=(Kept.refl w).alloc (.cells #[.string s1,.slice a1 n1 k1,.string s3,.int .i64 cm,.int .i64 cx,.int .i64 ckd,.slice a2 n2 k2,.slice a3 n3 k3] 32)
 have hA:=RowL.alloc 32 w [.string s1,.slice a1 n1 k1,.string s3,.int .i64 cm,.int .i64 cx,.int .i64 ckd,.slice a2 n2 k2,.slice a3 n3 k3]
 generalize w.alloc (.cells #[.string s1,.slice a1 n1 k1,.string s3,.int .i64 cm,.int .i64 cx,.int .i64 ckd,.slice a2 n2 k2,.slice a3 n3 k3] 32) = W0 at hK hA ⊢
 obtain ⟨p,hp⟩:∃ q,q = w.heap.size:=⟨_,rfl⟩
 rw [← hp] at hA ⊢
 clear hp
 have g0:=hA.cell 0 (.string s1)
 go_wp2_with fail
 refine (hdev _).mono ?_
 rintro e w1 ⟨hk1,rfl⟩
 clear g0 hdev
 have hA:=hA.kept hk1
 have HK:=hid' (hK.trans hk1)
 clear hk1 hK
 have g0:=hA.cell 0 (.string s1)
 have g1:=hA.cell 1 (.slice a1 n1 k1)
 have hz1:¬ (n1:Int) < 1:=by omega
 have hz2:¬ (8:Int) < (n1:Int):=by omega
 have HA:=hid' hA
 clear hA
 have hNi:((n1:Int) != (n1:Int)) = false:=by simp
 go_wp2_with fail
 clear g0 g1
 go_loopw [7] (fun vi wr => ∃ j:Nat,j≤n1∧vi = .int .i64 (j:Int)∧Hid (Kept w1 wr∧∀ i,i < j→okName (cnd.getD i []) = true)) (fun vi _ => n1 - (intOf vi).toNat)
 case atStart => exact ⟨0,Nat.zero_le _,rfl,Kept.refl w1,fun i hi => absurd hi (Nat.not_lt_zero _)⟩
 case round =>
  obtain ⟨j,hj,rfl,H⟩:=hrel
  have g1:=(HA.out.kept H.out.1).cell 1 (.slice a1 n1 k1)
  by_cases hlt:j < n1
  ·
   have hltz:(j:Int) < (n1:Int):=by omega
   have hltn:(j:Int) < (n1:Int):=by omega
   obtain ⟨ao',cap',hv,hx⟩:=(HC.out.1.nodes.kept HK.out).kept H.out.1
   simp only [Value.slice.injEq] at hv
   obtain ⟨rfl,hnw0,rfl⟩:=hv
   clear hnw0
   have hnw:n1 = cnd.length:=HLN.out.1
   obtain ⟨b,off,rfl,hb,hcl⟩:=hx (show 0 < cnd.length by omega)
   have q0:wr.cell? ⟨b,off + j,none⟩ = some (.string (bs (cnd.getD j []))):=hcl j (show j < cnd.length by omega)
   obtain ⟨sk,hsk⟩:∃ s,s = bs (cnd.getD j []):=⟨_,rfl⟩
   rw [← hsk] at q0
   have hskl:sk.size≤9223372036854775807:=by
    rw [hsk,bs_size,List.getD_eq_getElem?_getD,List.getElem?_eq_getElem (show j < cnd.length by omega)]
    exact HC.out.2.2.2.1 _ (List.getElem_mem _)
   have HSK:=hid' (show sk.data.toList = cnd.getD j [] by rw [hsk,bs_list])
   clear hx hcl hnw hsk
   go_wp2_with fail
   refine (rname_any sk _ hskl).mono ?_
   rintro e w2 ⟨rfl,rfl⟩
   rw [HSK.out]
   by_cases ho:okName (cnd.getD j []) = true
   ·
    rw [ho]
    have HO:=hid' ho
    clear ho
    go_wp2_with fail
    go_roundw
    case rel =>
     refine ⟨j + 1,by omega,by go_num,H.out.1,fun i hi => ?_⟩
     by_cases e:i = j
     ·
      subst e; exact HO.out
     ·
      exact H.out.2 i (by omega)
    case measure => show n1 - ((j:Int) + 1).toNat < n1 - (j:Int).toNat; omega
   ·
    have ho:okName (cnd.getD j []) = false:=by simpa using ho
    rw [ho]
    have HO:=hid' ho
    clear ho
    go_wp2_with fail
    go_ret
    refine ⟨HK.out.trans H.out.1,congrArg (fun b => Ending.returned (Value.bool b)) ?_⟩
    symm
    rw [HR.out,Bool.eq_false_iff]
    intro ht
    have h2:=((tail_iff _ _ _ _ _).1 ht).2.1 (cnd.getD j []) (by
     have:j < cnd.length:=by have:=HLN.out.1; omega
     rw [List.getD_eq_getElem?_getD,List.getElem?_eq_getElem this]
     exact List.getElem_mem _)
    rw [HO.out] at h2
    exact absurd h2 (by decide)
  ·
   obtain rfl:j = n1:=by omega
   have hltz:¬ (j:Int) < (j:Int):=by omega
   have g2:=(HA.out.kept H.out.1).cell 2 (.string s3)
   have g3:=(HA.out.kept H.out.1).cell 3 (.int .i64 cm)
   have g4:=(HA.out.kept H.out.1).cell 4 (.int .i64 cx)
   have g5:=(HA.out.kept H.out.1).cell 5 (.int .i64 ckd)
   have g6:=(HA.out.kept H.out.1).cell 6 (.slice a2 n2 k2)
   have g7:=(HA.out.kept H.out.1).cell 7 (.slice a3 n3 k3)
   have HT:=hid' (show r = (okName cr && ((decide (cm = 0) && decide (cx = 0)) && (decide (ckd = 0) && ((n2:Int) + (n3:Int) == 0)))) by
    rw [HR.out]
    unfold tailB
    have h2:cnd.all okName = true:=by
     rw [List.all_eq_true]
     intro x hx
     obtain ⟨i,hi,rfl⟩:=List.getElem_of_mem hx
     have:=H.out.2 i (by have:=HLN.out.1; omega)
     rwa [List.getD_eq_getElem?_getD,List.getElem?_eq_getElem hi] at this
    have h3:decide (ckd = 0∧cvs = []∧css = []) = (decide (ckd = 0) && ((n2:Int) + (n3:Int) == 0)):=by
     rw [HLN.out.2.1,HLN.out.2.2,Bool.eq_iff_iff]
     simp only [Bool.and_eq_true,decide_eq_true_eq,beq_iff_eq]
     constructor
     ·
      rintro ⟨a,b,d⟩
      rw [b,d]
      exact ⟨a,rfl⟩
     ·
      rintro ⟨a,b⟩
      exact ⟨a,List.eq_nil_of_length_eq_zero (by omega),List.eq_nil_of_length_eq_zero (by omega)⟩
    have h4:decide ((cm,cx) = ((0,0):Int × Int)) = (decide (cm = 0) && decide (cx = 0)):=by
     rw [← Bool.decide_and]
     exact decide_eq_decide.2 (by simp)
    simp only [decide_true,h2,Bool.true_and,h3,h4,Bool.false_eq_true,if_false,if_true])
   have HKK:=hid' (HK.out.trans H.out.1)
   have e2:IntKind.i64.wrap ((n2:Int) + (n3:Int)) = (n2:Int) + (n3:Int):=by have:=HC.out.2.2.2.2; rw [IntKind.wrap_i64]; omega
   have hs3:s3.size≤9223372036854775807:=by rw [HE.out.2,bs_size]; exact HC.out.2.2.1
   have HS3:=hid' (show s3.data.toList = cr by rw [HE.out.2,bs_list])
   go_wp2_with fail
   refine (rname_any s3 _ hs3).mono ?_
   rintro e w2 ⟨rfl,rfl⟩
   rw [HS3.out]
   by_cases ho:okName cr = true
   rotate_left
   ·
    have ho:okName cr = false:=by simpa using ho
    rw [ho] at HT ⊢
    clear ho
    go_wp2_with fail
    go_ret
    refine ⟨HKK.out,congrArg (fun b => Ending.returned (Value.bool b)) ?_⟩
    rw [HT.out]
    rfl
   rw [ho] at HT ⊢
   clear ho
   by_cases hv:cm = 0
   rotate_left
   ·
    have hvb:(cm == 0) = false:=by simpa using hv
    have HV:=hid' hv
    clear hv
    go_wp2_with fail
    go_ret
    refine ⟨HKK.out,congrArg (fun b => Ending.returned (Value.bool b)) ?_⟩
    rw [HT.out]
    simp [HV.out]
   subst hv
   by_cases hv:cx = 0
   rotate_left
   ·
    have hvb:(cx == 0) = false:=by simpa using hv
    have HV:=hid' hv
    clear hv
    go_wp2_with fail
    go_ret
    refine ⟨HKK.out,congrArg (fun b => Ending.returned (Value.bool b)) ?_⟩
    rw [HT.out]
    simp [HV.out]
   subst hv
   by_cases hv:ckd = 0
   rotate_left
   ·
    have hvb:(ckd == 0) = false:=by simpa using hv
    have HV:=hid' hv
    clear hv
    go_wp2_with fail
    go_ret
    refine ⟨HKK.out,congrArg (fun b => Ending.returned (Value.bool b)) ?_⟩
    rw [HT.out]
    simp [HV.out]
   subst hv
   go_wp2_with fail
   go_ret
   refine ⟨HKK.out,congrArg (fun b => Ending.returned (Value.bool b)) ?_⟩
   rw [HT.out]
   simp
end V
end Go.Proofs.YtembglnonhlnkaaGreatDoor

namespace Go.Proofs.YtembglnonhlnkaaGreatDoor
open Go.RowKit
namespace V
open Q (hid' parseOf okN textOf RValid_any)
open X (bs OwnS RS strs bs_list bs_size)
set_option maxRecDepth 100000 in
set_option maxHeartbeats 8000000 in
theorem right_z114 (a1 a2 a3:Option Addr) (n1 k1 n2 k2 n3 k3:Nat) (c:Cd) (w:World) (hc:CdR w a1 n1 k1 a2 n2 k2 a3 n3 k3 c) (hd:devB c.name = true) (hq:c.name.getD 0 0 = 114) (hz:c.val.1 = 0) (hs:c.name.length≤9223372036854775807) (hrs:c.ref.length≤9223372036854775807) (hnd:∀ x ∈ c.nodes,x.length≤9223372036854775807) (hn:n1≤1000000000000000000∧n2≤1000000000000000000∧n3≤1000000000000000000) :
  Calls Tryz.prog 28 #[cdV c (.slice a1 n1 k1) (.slice a2 n2 k2) (.slice a3 n3 k3)] w fun e w' => Kept w w'∧e = .returned (.bool false):=by
 have HC:=hid' (And.intro hc (And.intro hs (And.intro hrs (And.intro hnd hn))))
 have hh:=dev_len hd
 have hdev:=fun V => rdev_any (bs c.name) V (by rw [bs_size]; exact hs)
 rw [bs_list,hd] at hdev
 have HLN:=hid' (show n1 = c.nodes.length∧n2 = c.vals.length∧n3 = c.steps.length by
  obtain ⟨_,_,e1,_⟩:=hc.nodes
  obtain ⟨_,_,e2,_⟩:=hc.vals
  obtain ⟨_,_,e3,_⟩:=hc.steps
  simp only [Value.slice.injEq] at e1 e2 e3
  omega)
 clear hc hs hrs hnd
 obtain ⟨cn,cnd,cr,⟨cm,cx⟩,ckd,cvs,css⟩:=c
 unfold cdV
 simp only at hdev hh hq hd ⊢
 obtain ⟨s1,hs1⟩:∃ s,s = bs cn:=⟨_,rfl⟩
 obtain ⟨s3,hs3⟩:∃ s,s = bs cr:=⟨_,rfl⟩
 rw [← hs1,← hs3]
 rw [← hs1] at hdev
 have hsz:0 < s1.size:=by rw [hs1,bs_size]; exact hh
 have hszi:(0:Int) < (s1.size:Int):=by omega
 have HE:=hid' (And.intro hs1 hs3)
 have eh:s1[0].toNat = 114:=by rw [head_of hsz hs1,hq]; rfl
 clear hs1 hs3 hd hh hq
 go_enter Tryz.func28,Tryz.ntmps28
 go_upto_region 1 with fail
 have hK:=(Kept.refl w).alloc (.cells #[.string s1,.slice a1 n1 k1,.string s3,.int .i64 cm,.int .i64 cx,.int .i64 ckd,.slice a2 n2 k2,.slice a3 n3 k3] 32)
 have hA:=RowL.alloc 32 w [.string s1,.slice a1 n1 k1,.string s3,.int .i64 cm,.int .i64 cx,.int .i64 ckd,.slice a2 n2 k2,.slice a3 n3 k3]
 generalize w.alloc (.cells #[.string s1,.slice a1 n1 k1,.string s3,.int .i64 cm,.int .i64 cx,.int .i64 ckd,.slice a2 n2 k2,.slice a3 n3 k3] 32) = W0 at hK hA ⊢
 obtain ⟨p,hp⟩:∃ q,q = w.heap.size:=⟨_,rfl⟩
 rw [← hp] at hA ⊢
 clear hp
 have g0:=hA.cell 0 (.string s1)
 go_wp2_with fail
 refine (hdev _).mono ?_
 rintro e w1 ⟨hk1,rfl⟩
 clear g0 hdev
 have hA:=hA.kept hk1
 have HK:=hid' (hK.trans hk1)
 clear hk1 hK
 have g0:=hA.cell 0 (.string s1)
 have g1:=hA.cell 1 (.slice a1 n1 k1)
 obtain rfl:cm = 0:=hz
 have g3:=hA.cell 3 (.int .i64 0)
 have HA:=hid' hA
 clear hA
 go_wp2_with fail
 go_ret
 exact ⟨HK.out,rfl⟩
set_option maxRecDepth 100000 in
set_option maxHeartbeats 8000000 in
theorem right_z99 (a1 a2 a3:Option Addr) (n1 k1 n2 k2 n3 k3:Nat) (c:Cd) (w:World) (hc:CdR w a1 n1 k1 a2 n2 k2 a3 n3 k3 c) (hd:devB c.name = true) (hq:c.name.getD 0 0 = 99) (hz:c.val.1 = 0) (hs:c.name.length≤9223372036854775807) (hrs:c.ref.length≤9223372036854775807) (hnd:∀ x ∈ c.nodes,x.length≤9223372036854775807) (hn:n1≤1000000000000000000∧n2≤1000000000000000000∧n3≤1000000000000000000) :
  Calls Tryz.prog 28 #[cdV c (.slice a1 n1 k1) (.slice a2 n2 k2) (.slice a3 n3 k3)] w fun e w' => Kept w w'∧e = .returned (.bool false):=by
 have HC:=hid' (And.intro hc (And.intro hs (And.intro hrs (And.intro hnd hn))))
 have hh:=dev_len hd
 have hdev:=fun V => rdev_any (bs c.name) V (by rw [bs_size]; exact hs)
 rw [bs_list,hd] at hdev
 have HLN:=hid' (show n1 = c.nodes.length∧n2 = c.vals.length∧n3 = c.steps.length by
  obtain ⟨_,_,e1,_⟩:=hc.nodes
  obtain ⟨_,_,e2,_⟩:=hc.vals
  obtain ⟨_,_,e3,_⟩:=hc.steps
  simp only [Value.slice.injEq] at e1 e2 e3
  omega)
 clear hc hs hrs hnd
 obtain ⟨cn,cnd,cr,⟨cm,cx⟩,ckd,cvs,css⟩:=c
 unfold cdV
 simp only at hdev hh hq hd ⊢
 obtain ⟨s1,hs1⟩:∃ s,s = bs cn:=⟨_,rfl⟩
 obtain ⟨s3,hs3⟩:∃ s,s = bs cr:=⟨_,rfl⟩
 rw [← hs1,← hs3]
 rw [← hs1] at hdev
 have hsz:0 < s1.size:=by rw [hs1,bs_size]; exact hh
 have hszi:(0:Int) < (s1.size:Int):=by omega
 have HE:=hid' (And.intro hs1 hs3)
 have eh:s1[0].toNat = 99:=by rw [head_of hsz hs1,hq]; rfl
 clear hs1 hs3 hd hh hq
 go_enter Tryz.func28,Tryz.ntmps28
 go_upto_region 1 with fail
 have hK:=(Kept.refl w).alloc (.cells #[.string s1,.slice a1 n1 k1,.string s3,.int .i64 cm,.int .i64 cx,.int .i64 ckd,.slice a2 n2 k2,.slice a3 n3 k3] 32)
 have hA:=RowL.alloc 32 w [.string s1,.slice a1 n1 k1,.string s3,.int .i64 cm,.int .i64 cx,.int .i64 ckd,.slice a2 n2 k2,.slice a3 n3 k3]
 generalize w.alloc (.cells #[.string s1,.slice a1 n1 k1,.string s3,.int .i64 cm,.int .i64 cx,.int .i64 ckd,.slice a2 n2 k2,.slice a3 n3 k3] 32) = W0 at hK hA ⊢
 obtain ⟨p,hp⟩:∃ q,q = w.heap.size:=⟨_,rfl⟩
 rw [← hp] at hA ⊢
 clear hp
 have g0:=hA.cell 0 (.string s1)
 go_wp2_with fail
 refine (hdev _).mono ?_
 rintro e w1 ⟨hk1,rfl⟩
 clear g0 hdev
 have hA:=hA.kept hk1
 have HK:=hid' (hK.trans hk1)
 clear hk1 hK
 have g0:=hA.cell 0 (.string s1)
 have g1:=hA.cell 1 (.slice a1 n1 k1)
 obtain rfl:cm = 0:=hz
 have g3:=hA.cell 3 (.int .i64 0)
 have HA:=hid' hA
 clear hA
 go_wp2_with fail
 go_ret
 exact ⟨HK.out,rfl⟩
set_option maxRecDepth 100000 in
set_option maxHeartbeats 8000000 in
theorem right_z108 (a1 a2 a3:Option Addr) (n1 k1 n2 k2 n3 k3:Nat) (c:Cd) (w:World) (hc:CdR w a1 n1 k1 a2 n2 k2 a3 n3 k3 c) (hd:devB c.name = true) (hq:c.name.getD 0 0 = 108) (hz:c.val.1 = 0) (hs:c.name.length≤9223372036854775807) (hrs:c.ref.length≤9223372036854775807) (hnd:∀ x ∈ c.nodes,x.length≤9223372036854775807) (hn:n1≤1000000000000000000∧n2≤1000000000000000000∧n3≤1000000000000000000) :
  Calls Tryz.prog 28 #[cdV c (.slice a1 n1 k1) (.slice a2 n2 k2) (.slice a3 n3 k3)] w fun e w' => Kept w w'∧e = .returned (.bool false):=by
 have HC:=hid' (And.intro hc (And.intro hs (And.intro hrs (And.intro hnd hn))))
 have hh:=dev_len hd
 have hdev:=fun V => rdev_any (bs c.name) V (by rw [bs_size]; exact hs)
 rw [bs_list,hd] at hdev
 have HLN:=hid' (show n1 = c.nodes.length∧n2 = c.vals.length∧n3 = c.steps.length by
  obtain ⟨_,_,e1,_⟩:=hc.nodes
  obtain ⟨_,_,e2,_⟩:=hc.vals
  obtain ⟨_,_,e3,_⟩:=hc.steps
  simp only [Value.slice.injEq] at e1 e2 e3
  omega)
 clear hc hs hrs hnd
 obtain ⟨cn,cnd,cr,⟨cm,cx⟩,ckd,cvs,css⟩:=c
 unfold cdV
 simp only at hdev hh hq hd ⊢
 obtain ⟨s1,hs1⟩:∃ s,s = bs cn:=⟨_,rfl⟩
 obtain ⟨s3,hs3⟩:∃ s,s = bs cr:=⟨_,rfl⟩
 rw [← hs1,← hs3]
 rw [← hs1] at hdev
 have hsz:0 < s1.size:=by rw [hs1,bs_size]; exact hh
 have hszi:(0:Int) < (s1.size:Int):=by omega
 have HE:=hid' (And.intro hs1 hs3)
 have eh:s1[0].toNat = 108:=by rw [head_of hsz hs1,hq]; rfl
 clear hs1 hs3 hd hh hq
 go_enter Tryz.func28,Tryz.ntmps28
 go_upto_region 1 with fail
 have hK:=(Kept.refl w).alloc (.cells #[.string s1,.slice a1 n1 k1,.string s3,.int .i64 cm,.int .i64 cx,.int .i64 ckd,.slice a2 n2 k2,.slice a3 n3 k3] 32)
 have hA:=RowL.alloc 32 w [.string s1,.slice a1 n1 k1,.string s3,.int .i64 cm,.int .i64 cx,.int .i64 ckd,.slice a2 n2 k2,.slice a3 n3 k3]
 generalize w.alloc (.cells #[.string s1,.slice a1 n1 k1,.string s3,.int .i64 cm,.int .i64 cx,.int .i64 ckd,.slice a2 n2 k2,.slice a3 n3 k3] 32) = W0 at hK hA ⊢
 obtain ⟨p,hp⟩:∃ q,q = w.heap.size:=⟨_,rfl⟩
 rw [← hp] at hA ⊢
 clear hp
 have g0:=hA.cell 0 (.string s1)
 go_wp2_with fail
 refine (hdev _).mono ?_
 rintro e w1 ⟨hk1,rfl⟩
 clear g0 hdev
 have hA:=hA.kept hk1
 have HK:=hid' (hK.trans hk1)
 clear hk1 hK
 have g0:=hA.cell 0 (.string s1)
 have g1:=hA.cell 1 (.slice a1 n1 k1)
 obtain rfl:cm = 0:=hz
 have g3:=hA.cell 3 (.int .i64 0)
 have HA:=hid' hA
 clear hA
 go_wp2_with fail
 go_ret
 exact ⟨HK.out,rfl⟩
set_option maxRecDepth 100000 in
set_option maxHeartbeats 8000000 in
theorem right_z102 (a1 a2 a3:Option Addr) (n1 k1 n2 k2 n3 k3:Nat) (c:Cd) (w:World) (hc:CdR w a1 n1 k1 a2 n2 k2 a3 n3 k3 c) (hd:devB c.name = true) (hq:c.name.getD 0 0 = 102) (hz:c.ref.length = 0 ∨ c.ref.getD 0 0 ≠ 118) (hs:c.name.length≤9223372036854775807) (hrs:c.ref.length≤9223372036854775807) (hnd:∀ x ∈ c.nodes,x.length≤9223372036854775807) (hn:n1≤1000000000000000000∧n2≤1000000000000000000∧n3≤1000000000000000000) :
  Calls Tryz.prog 28 #[cdV c (.slice a1 n1 k1) (.slice a2 n2 k2) (.slice a3 n3 k3)] w fun e w' => Kept w w'∧e = .returned (.bool false):=by
 have HC:=hid' (And.intro hc (And.intro hs (And.intro hrs (And.intro hnd hn))))
 have hh:=dev_len hd
 have hdev:=fun V => rdev_any (bs c.name) V (by rw [bs_size]; exact hs)
 rw [bs_list,hd] at hdev
 have HLN:=hid' (show n1 = c.nodes.length∧n2 = c.vals.length∧n3 = c.steps.length by
  obtain ⟨_,_,e1,_⟩:=hc.nodes
  obtain ⟨_,_,e2,_⟩:=hc.vals
  obtain ⟨_,_,e3,_⟩:=hc.steps
  simp only [Value.slice.injEq] at e1 e2 e3
  omega)
 clear hc hs hrs hnd
 obtain ⟨cn,cnd,cr,⟨cm,cx⟩,ckd,cvs,css⟩:=c
 unfold cdV
 simp only at hdev hh hq hd ⊢
 obtain ⟨s1,hs1⟩:∃ s,s = bs cn:=⟨_,rfl⟩
 obtain ⟨s3,hs3⟩:∃ s,s = bs cr:=⟨_,rfl⟩
 rw [← hs1,← hs3]
 rw [← hs1] at hdev
 have hsz:0 < s1.size:=by rw [hs1,bs_size]; exact hh
 have hszi:(0:Int) < (s1.size:Int):=by omega
 have HE:=hid' (And.intro hs1 hs3)
 have eh:s1[0].toNat = 102:=by rw [head_of hsz hs1,hq]; rfl
 clear hs1 hs3 hd hh hq
 go_enter Tryz.func28,Tryz.ntmps28
 go_upto_region 1 with fail
 have hK:=(Kept.refl w).alloc (.cells #[.string s1,.slice a1 n1 k1,.string s3,.int .i64 cm,.int .i64 cx,.int .i64 ckd,.slice a2 n2 k2,.slice a3 n3 k3] 32)
 have hA:=RowL.alloc 32 w [.string s1,.slice a1 n1 k1,.string s3,.int .i64 cm,.int .i64 cx,.int .i64 ckd,.slice a2 n2 k2,.slice a3 n3 k3]
 generalize w.alloc (.cells #[.string s1,.slice a1 n1 k1,.string s3,.int .i64 cm,.int .i64 cx,.int .i64 ckd,.slice a2 n2 k2,.slice a3 n3 k3] 32) = W0 at hK hA ⊢
 obtain ⟨p,hp⟩:∃ q,q = w.heap.size:=⟨_,rfl⟩
 rw [← hp] at hA ⊢
 clear hp
 have g0:=hA.cell 0 (.string s1)
 go_wp2_with fail
 refine (hdev _).mono ?_
 rintro e w1 ⟨hk1,rfl⟩
 clear g0 hdev
 have hA:=hA.kept hk1
 have HK:=hid' (hK.trans hk1)
 clear hk1 hK
 have g0:=hA.cell 0 (.string s1)
 have g1:=hA.cell 1 (.slice a1 n1 k1)
 have hz':cr.length = 0 ∨ cr.getD 0 0 ≠ 118:=hz
 have hrl:s3.size = cr.length:=by rw [HE.out.2,bs_size]
 have g2:=hA.cell 2 (.string s3)
 have HA:=hid' hA
 clear hA
 by_cases h0:s3.size = 0
 ·
  have hr5:(s3.size:Int) = 0:=by omega
  have hr3:((s3.size:Int) == 0) = true:=beq_iff_eq.2 hr5
  clear hz hz' hrl
  go_wp2_with fail
  go_ret
  exact ⟨HK.out,rfl⟩
 have hr1:0 < s3.size:=by omega
 have hr2:(0:Int) < (s3.size:Int):=by omega
 have hr5:¬ (s3.size:Int) = 0:=by omega
 have hr3:((s3.size:Int) == 0) = false:=beq_eq_false_iff_ne.2 hr5
 have hx0:¬ s3[0].toNat = 118:=fun e => by
  rw [head_of hr1 HE.out.2] at e
  rcases hz' with h | h
  ·
   omega
  ·
   exact h (UInt8.toNat_inj.1 (by rw [e]; rfl))
 have hx1:¬ (s3[0].toNat:Int) = 118:=by omega
 have hx2:((s3[0].toNat:Int) != 118) = true:=by simpa using hx1
 clear hz hz' hrl
 go_wp2_with fail
 go_ret
 exact ⟨HK.out,rfl⟩
set_option maxRecDepth 100000 in
set_option maxHeartbeats 8000000 in
theorem right_z104 (a1 a2 a3:Option Addr) (n1 k1 n2 k2 n3 k3:Nat) (c:Cd) (w:World) (hc:CdR w a1 n1 k1 a2 n2 k2 a3 n3 k3 c) (hd:devB c.name = true) (hq:c.name.getD 0 0 = 104) (hz:c.ref.length = 0 ∨ c.ref.getD 0 0 ≠ 118) (hs:c.name.length≤9223372036854775807) (hrs:c.ref.length≤9223372036854775807) (hnd:∀ x ∈ c.nodes,x.length≤9223372036854775807) (hn:n1≤1000000000000000000∧n2≤1000000000000000000∧n3≤1000000000000000000) :
  Calls Tryz.prog 28 #[cdV c (.slice a1 n1 k1) (.slice a2 n2 k2) (.slice a3 n3 k3)] w fun e w' => Kept w w'∧e = .returned (.bool false):=by
 have HC:=hid' (And.intro hc (And.intro hs (And.intro hrs (And.intro hnd hn))))
 have hh:=dev_len hd
 have hdev:=fun V => rdev_any (bs c.name) V (by rw [bs_size]; exact hs)
 rw [bs_list,hd] at hdev
 have HLN:=hid' (show n1 = c.nodes.length∧n2 = c.vals.length∧n3 = c.steps.length by
  obtain ⟨_,_,e1,_⟩:=hc.nodes
  obtain ⟨_,_,e2,_⟩:=hc.vals
  obtain ⟨_,_,e3,_⟩:=hc.steps
  simp only [Value.slice.injEq] at e1 e2 e3
  omega)
 clear hc hs hrs hnd
 obtain ⟨cn,cnd,cr,⟨cm,cx⟩,ckd,cvs,css⟩:=c
 unfold cdV
 simp only at hdev hh hq hd ⊢
 obtain ⟨s1,hs1⟩:∃ s,s = bs cn:=⟨_,rfl⟩
 obtain ⟨s3,hs3⟩:∃ s,s = bs cr:=⟨_,rfl⟩
 rw [← hs1,← hs3]
 rw [← hs1] at hdev
 have hsz:0 < s1.size:=by rw [hs1,bs_size]; exact hh
 have hszi:(0:Int) < (s1.size:Int):=by omega
 have HE:=hid' (And.intro hs1 hs3)
 have eh:s1[0].toNat = 104:=by rw [head_of hsz hs1,hq]; rfl
 clear hs1 hs3 hd hh hq
 go_enter Tryz.func28,Tryz.ntmps28
 go_upto_region 1 with fail
 have hK:=(Kept.refl w).alloc (.cells #[.string s1,.slice a1 n1 k1,.string s3,.int .i64 cm,.int .i64 cx,.int .i64 ckd,.slice a2 n2 k2,.slice a3 n3 k3] 32)
 have hA:=RowL.alloc 32 w [.string s1,.slice a1 n1 k1,.string s3,.int .i64 cm,.int .i64 cx,.int .i64 ckd,.slice a2 n2 k2,.slice a3 n3 k3]
 generalize w.alloc (.cells #[.string s1,.slice a1 n1 k1,.string s3,.int .i64 cm,.int .i64 cx,.int .i64 ckd,.slice a2 n2 k2,.slice a3 n3 k3] 32) = W0 at hK hA ⊢
 obtain ⟨p,hp⟩:∃ q,q = w.heap.size:=⟨_,rfl⟩
 rw [← hp] at hA ⊢
 clear hp
 have g0:=hA.cell 0 (.string s1)
 go_wp2_with fail
 refine (hdev _).mono ?_
 rintro e w1 ⟨hk1,rfl⟩
 clear g0 hdev
 have hA:=hA.kept hk1
 have HK:=hid' (hK.trans hk1)
 clear hk1 hK
 have g0:=hA.cell 0 (.string s1)
 have g1:=hA.cell 1 (.slice a1 n1 k1)
 have hz':cr.length = 0 ∨ cr.getD 0 0 ≠ 118:=hz
 have hrl:s3.size = cr.length:=by rw [HE.out.2,bs_size]
 have g2:=hA.cell 2 (.string s3)
 have HA:=hid' hA
 clear hA
 by_cases h0:s3.size = 0
 ·
  have hr5:(s3.size:Int) = 0:=by omega
  have hr3:((s3.size:Int) == 0) = true:=beq_iff_eq.2 hr5
  clear hz hz' hrl
  go_wp2_with fail
  go_ret
  exact ⟨HK.out,rfl⟩
 have hr1:0 < s3.size:=by omega
 have hr2:(0:Int) < (s3.size:Int):=by omega
 have hr5:¬ (s3.size:Int) = 0:=by omega
 have hr3:((s3.size:Int) == 0) = false:=beq_eq_false_iff_ne.2 hr5
 have hx0:¬ s3[0].toNat = 118:=fun e => by
  rw [head_of hr1 HE.out.2] at e
  rcases hz' with h | h
  ·
   omega
  ·
   exact h (UInt8.toNat_inj.1 (by rw [e]; rfl))
 have hx1:¬ (s3[0].toNat:Int) = 118:=by omega
 have hx2:((s3[0].toNat:Int) != 118) = true:=by simpa using hx1
 clear hz hz' hrl
 go_wp2_with fail
 go_ret
 exact ⟨HK.out,rfl⟩
set_option maxRecDepth 100000 in
set_option maxHeartbeats 8000000 in
theorem right_z120 (a1 a2 a3:Option Addr) (n1 k1 n2 k2 n3 k3:Nat) (c:Cd) (w:World) (hc:CdR w a1 n1 k1 a2 n2 k2 a3 n3 k3 c) (hd:devB c.name = true) (hq:c.name.getD 0 0 = 120) (hz:n1 < 1 ∨ 8 < n1) (hs:c.name.length≤9223372036854775807) (hrs:c.ref.length≤9223372036854775807) (hnd:∀ x ∈ c.nodes,x.length≤9223372036854775807) (hn:n1≤1000000000000000000∧n2≤1000000000000000000∧n3≤1000000000000000000) :
  Calls Tryz.prog 28 #[cdV c (.slice a1 n1 k1) (.slice a2 n2 k2) (.slice a3 n3 k3)] w fun e w' => Kept w w'∧e = .returned (.bool false):=by
 have HC:=hid' (And.intro hc (And.intro hs (And.intro hrs (And.intro hnd hn))))
 have hh:=dev_len hd
 have hdev:=fun V => rdev_any (bs c.name) V (by rw [bs_size]; exact hs)
 rw [bs_list,hd] at hdev
 have HLN:=hid' (show n1 = c.nodes.length∧n2 = c.vals.length∧n3 = c.steps.length by
  obtain ⟨_,_,e1,_⟩:=hc.nodes
  obtain ⟨_,_,e2,_⟩:=hc.vals
  obtain ⟨_,_,e3,_⟩:=hc.steps
  simp only [Value.slice.injEq] at e1 e2 e3
  omega)
 clear hc hs hrs hnd
 obtain ⟨cn,cnd,cr,⟨cm,cx⟩,ckd,cvs,css⟩:=c
 unfold cdV
 simp only at hdev hh hq hd ⊢
 obtain ⟨s1,hs1⟩:∃ s,s = bs cn:=⟨_,rfl⟩
 obtain ⟨s3,hs3⟩:∃ s,s = bs cr:=⟨_,rfl⟩
 rw [← hs1,← hs3]
 rw [← hs1] at hdev
 have hsz:0 < s1.size:=by rw [hs1,bs_size]; exact hh
 have hszi:(0:Int) < (s1.size:Int):=by omega
 have HE:=hid' (And.intro hs1 hs3)
 have eh:s1[0].toNat = 120:=by rw [head_of hsz hs1,hq]; rfl
 clear hs1 hs3 hd hh hq
 go_enter Tryz.func28,Tryz.ntmps28
 go_upto_region 1 with fail
 have hK:=(Kept.refl w).alloc (.cells #[.string s1,.slice a1 n1 k1,.string s3,.int .i64 cm,.int .i64 cx,.int .i64 ckd,.slice a2 n2 k2,.slice a3 n3 k3] 32)
 have hA:=RowL.alloc 32 w [.string s1,.slice a1 n1 k1,.string s3,.int .i64 cm,.int .i64 cx,.int .i64 ckd,.slice a2 n2 k2,.slice a3 n3 k3]
 generalize w.alloc (.cells #[.string s1,.slice a1 n1 k1,.string s3,.int .i64 cm,.int .i64 cx,.int .i64 ckd,.slice a2 n2 k2,.slice a3 n3 k3] 32) = W0 at hK hA ⊢
 obtain ⟨p,hp⟩:∃ q,q = w.heap.size:=⟨_,rfl⟩
 rw [← hp] at hA ⊢
 clear hp
 have g0:=hA.cell 0 (.string s1)
 go_wp2_with fail
 refine (hdev _).mono ?_
 rintro e w1 ⟨hk1,rfl⟩
 clear g0 hdev
 have hA:=hA.kept hk1
 have HK:=hid' (hK.trans hk1)
 clear hk1 hK
 have g0:=hA.cell 0 (.string s1)
 have g1:=hA.cell 1 (.slice a1 n1 k1)
 have HA:=hid' hA
 clear hA
 by_cases h0:n1 < 1
 ·
  have h1:(n1:Int) < 1:=by omega
  clear hz
  go_wp2_with fail
  go_ret
  exact ⟨HK.out,rfl⟩
 have h1:¬ (n1:Int) < 1:=by omega
 have h2:(8:Int) < (n1:Int):=by omega
 clear hz
 go_wp2_with fail
 go_ret
 exact ⟨HK.out,rfl⟩
end V
end Go.Proofs.YtembglnonhlnkaaGreatDoor

namespace Go.Proofs.YtembglnonhlnkaaGreatDoor
open Go.RowKit
namespace V
open Q (hid' parseOf okN textOf RValid_any)
open X (bs OwnS RS strs bs_list bs_size)
set_option maxRecDepth 100000 in
set_option maxHeartbeats 8000000 in
theorem right_nodev (a1 a2 a3:Option Addr) (n1 k1 n2 k2 n3 k3:Nat) (c:Cd) (w:World) (hd:devB c.name = false) (hs:c.name.length≤9223372036854775807) :
  Calls Tryz.prog 28 #[cdV c (.slice a1 n1 k1) (.slice a2 n2 k2) (.slice a3 n3 k3)] w fun e w' => Kept w w'∧e = .returned (.bool false):=by
 have hdev:=fun V => rdev_any (bs c.name) V (by rw [bs_size]; exact hs)
 rw [bs_list,hd] at hdev
 obtain ⟨cn,cnd,cr,⟨cm,cx⟩,ckd,cvs,css⟩:=c
 unfold cdV
 simp only at hdev ⊢
 generalize bs cn = s1 at hdev ⊢
 generalize bs cr = s3
 clear hd hs
 go_enter Tryz.func28,Tryz.ntmps28
 go_upto_region 1 with fail
 have hK:=(Kept.refl w).alloc (.cells #[.string s1,.slice a1 n1 k1,.string s3,.int .i64 cm,.int .i64 cx,.int .i64 ckd,.slice a2 n2 k2,.slice a3 n3 k3] 32)
 have hA:=RowL.alloc 32 w [.string s1,.slice a1 n1 k1,.string s3,.int .i64 cm,.int .i64 cx,.int .i64 ckd,.slice a2 n2 k2,.slice a3 n3 k3]
 generalize w.alloc (.cells #[.string s1,.slice a1 n1 k1,.string s3,.int .i64 cm,.int .i64 cx,.int .i64 ckd,.slice a2 n2 k2,.slice a3 n3 k3] 32) = W0 at hK hA ⊢
 obtain ⟨p,hp⟩:∃ q,q = w.heap.size:=⟨_,rfl⟩
 rw [← hp] at hA ⊢
 clear hp
 have g0:=hA.cell 0 (.string s1)
 go_wp2_with fail
 refine (hdev _).mono ?_
 rintro e w1 ⟨hk1,rfl⟩
 have HK:=hid' (hK.trans hk1)
 clear hk1 hK
 go_wp2_with fail
 go_ret
 exact ⟨HK.out,rfl⟩
theorem right_any (a1 a2 a3:Option Addr) (n1 k1 n2 k2 n3 k3:Nat) (c:Cd) (w:World) (hc:CdR w a1 n1 k1 a2 n2 k2 a3 n3 k3 c) (hs:c.name.length≤9223372036854775807) (hrs:c.ref.length≤9223372036854775807) (hnd:∀ x ∈ c.nodes,x.length≤9223372036854775807) (hn:n1≤1000000000000000000∧n2≤1000000000000000000∧n3≤1000000000000000000) :
  Calls Tryz.prog 28 #[cdV c (.slice a1 n1 k1) (.slice a2 n2 k2) (.slice a3 n3 k3)] w fun e w' => Kept w w'∧e = .returned (.bool (rightB c)):=by
 have hl:n1 = c.nodes.length:=by
  obtain ⟨_,_,e1,_⟩:=hc.nodes
  simp only [Value.slice.injEq] at e1
  exact e1.2.1
 cases hd:devB c.name with
 | false =>
  rw [show rightB c = false by unfold rightB; rw [if_pos hd]]
  exact right_nodev a1 a2 a3 n1 k1 n2 k2 n3 k3 c w hd hs
 | true =>
  have hk:=dev_kind hd
  unfold kindsL at hk
  simp only [List.mem_cons,List.not_mem_nil,or_false] at hk
  rcases hk with e | e | e | e | e | e | e | e | e | e | e | e | e
  ·
   have ec:rightB c = if c.val.1 = 0 then false else tailB c 2 false true false:=by unfold rightB; rw [e,hd]; rfl
   by_cases hz:c.val.1 = 0
   ·
    rw [ec,if_pos hz]
    exact right_z114 a1 a2 a3 n1 k1 n2 k2 n3 k3 c w hc hd e hz hs hrs hnd hn
   ·
    rw [ec,if_neg hz]
    exact right_l114 a1 a2 a3 n1 k1 n2 k2 n3 k3 c w hc hd e hz hs hrs hnd hn
  ·
   have ec:rightB c = if c.val.1 = 0 then false else tailB c 2 false true false:=by unfold rightB; rw [e,hd]; rfl
   by_cases hz:c.val.1 = 0
   ·
    rw [ec,if_pos hz]
    exact right_z99 a1 a2 a3 n1 k1 n2 k2 n3 k3 c w hc hd e hz hs hrs hnd hn
   ·
    rw [ec,if_neg hz]
    exact right_l99 a1 a2 a3 n1 k1 n2 k2 n3 k3 c w hc hd e hz hs hrs hnd hn
  ·
   have ec:rightB c = if c.val.1 = 0 then false else tailB c 2 false true false:=by unfold rightB; rw [e,hd]; rfl
   by_cases hz:c.val.1 = 0
   ·
    rw [ec,if_pos hz]
    exact right_z108 a1 a2 a3 n1 k1 n2 k2 n3 k3 c w hc hd e hz hs hrs hnd hn
   ·
    rw [ec,if_neg hz]
    exact right_l108 a1 a2 a3 n1 k1 n2 k2 n3 k3 c w hc hd e hz hs hrs hnd hn
  ·
   rw [show rightB c = tailB c 2 false false true by unfold rightB; rw [e,hd]; rfl]
   exact right_l118 a1 a2 a3 n1 k1 n2 k2 n3 k3 c w hc hd e hs hrs hnd hn
  ·
   rw [show rightB c = tailB c 2 false false true by unfold rightB; rw [e,hd]; rfl]
   exact right_l105 a1 a2 a3 n1 k1 n2 k2 n3 k3 c w hc hd e hs hrs hnd hn
  ·
   rw [show rightB c = tailB c 4 false true false by unfold rightB; rw [e,hd]; rfl]
   exact right_l101 a1 a2 a3 n1 k1 n2 k2 n3 k3 c w hc hd e hs hrs hnd hn
  ·
   rw [show rightB c = tailB c 4 false true false by unfold rightB; rw [e,hd]; rfl]
   exact right_l103 a1 a2 a3 n1 k1 n2 k2 n3 k3 c w hc hd e hs hrs hnd hn
  ·
   have ec:rightB c = if c.ref.length = 0 ∨ c.ref.getD 0 0 ≠ 118 then false else tailB c 2 true true false:=by unfold rightB; rw [e,hd]; rfl
   by_cases hz:c.ref.length = 0 ∨ c.ref.getD 0 0 ≠ 118
   ·
    rw [ec,if_pos hz]
    exact right_z102 a1 a2 a3 n1 k1 n2 k2 n3 k3 c w hc hd e hz hs hrs hnd hn
   ·
    rw [ec,if_neg hz]
    exact right_l102 a1 a2 a3 n1 k1 n2 k2 n3 k3 c w hc hd e hz hs hrs hnd hn
  ·
   have ec:rightB c = if c.ref.length = 0 ∨ c.ref.getD 0 0 ≠ 118 then false else tailB c 2 true true false:=by unfold rightB; rw [e,hd]; rfl
   by_cases hz:c.ref.length = 0 ∨ c.ref.getD 0 0 ≠ 118
   ·
    rw [ec,if_pos hz]
    exact right_z104 a1 a2 a3 n1 k1 n2 k2 n3 k3 c w hc hd e hz hs hrs hnd hn
   ·
    rw [ec,if_neg hz]
    exact right_l104 a1 a2 a3 n1 k1 n2 k2 n3 k3 c w hc hd e hz hs hrs hnd hn
  ·
   rw [show rightB c = tailB c 4 false true false by unfold rightB; rw [e,hd]; rfl]
   exact right_l116 a1 a2 a3 n1 k1 n2 k2 n3 k3 c w hc hd e hs hrs hnd hn
  ·
   rw [show rightB c = tailB c 2 true false false by unfold rightB; rw [e,hd]; rfl]
   exact right_l100 a1 a2 a3 n1 k1 n2 k2 n3 k3 c w hc hd e hs hrs hnd hn
  ·
   rw [show rightB c = tailB c 4 true false false by unfold rightB; rw [e,hd]; rfl]
   exact right_l115 a1 a2 a3 n1 k1 n2 k2 n3 k3 c w hc hd e hs hrs hnd hn
  ·
   have ec:rightB c = if c.nodes.length < 1 ∨ 8 < c.nodes.length then false else tailB c c.nodes.length true false false:=by unfold rightB; rw [e,hd]; rfl
   by_cases hz:c.nodes.length < 1 ∨ 8 < c.nodes.length
   ·
    rw [ec,if_pos hz]
    exact right_z120 a1 a2 a3 n1 k1 n2 k2 n3 k3 c w hc hd e (by omega) hs hrs hnd hn
   ·
    rw [ec,if_neg hz]
    exact right_l120 a1 a2 a3 n1 k1 n2 k2 n3 k3 c w hc hd e (by omega) hs hrs hnd hn
end V
end Go.Proofs.YtembglnonhlnkaaGreatDoor

namespace Go.Proofs.YtembglnonhlnkaaGreatDoor
open Go.RowKit
namespace V
open Q (hid' parseOf Lett ErrV Tab okN textOf)
open X (bs OwnS RS strs bs_list bs_size)
end V
end Go.Proofs.YtembglnonhlnkaaGreatDoor

/- Lemmas. -/
import Derived.Test.YtihnknnddldgiaaGreatDoorGbi
import Derived.Test.YtihnknnddldgiaaGreatDoorGax
import Derived.Test.YtihnknnddldgiaaGreatDoorGbh
namespace Go.Proofs.YtihnknnddldgiaaGreatDoor
open Go.RowKit
namespace V
open Q (parseOf okN textOf)
theorem shape_facts {q:UInt8} (ws:List (List UInt8)) (hk:q ∈ kindsL) :
  nodesN q ((cshape q ws).count 110) = true/\(refC q = true->109 ∈ cshape q ws ∨ 118 ∈ cshape q ws)/\(refC q = false->109 ∉ cshape q ws/\118 ∉ cshape q ws)/\(q = 102 ∨ q = 104->118 ∈ cshape q ws/\109 ∉ cshape q ws):=by
 unfold kindsL at hk
 simp only [List.mem_cons,List.not_mem_nil,or_false] at hk
 have hw0:=List.count_eq_zero.2 (wshape_no (ws.drop 3) 110 (.inl rfl))
 have hw1:=wshape_no (ws.drop 3) 109 (.inr (.inl rfl))
 have hw2:=wshape_no (ws.drop 3) 118 (.inr (.inr rfl))
 rcases hk with rfl | rfl | rfl | rfl | rfl | rfl | rfl | rfl | rfl | rfl | rfl | rfl | rfl
 ·
  simp [cshape,nodesN,refC]
 ·
  simp [cshape,nodesN,refC]
 ·
  simp [cshape,nodesN,refC]
 ·
  simp [cshape,nodesN,refC,hw0,hw1,hw2]
 ·
  simp [cshape,nodesN,refC,hw0,hw1,hw2]
 ·
  simp [cshape,nodesN,refC]
 ·
  simp [cshape,nodesN,refC]
 ·
  simp [cshape,nodesN,refC]
 ·
  simp [cshape,nodesN,refC]
 ·
  simp [cshape,nodesN,refC]
 ·
  simp [cshape,nodesN,refC]
 ·
  simp [cshape,nodesN,refC]
 ·
  refine ⟨?_,fun _ => .inl (by simp [cshape]),fun h => absurd h (by decide),fun h => absurd h (by decide)⟩
  have e:(cshape 120 ws).count 110 = min (max (ws.length - 2) 1) 8:=by
   unfold cshape
   rw [if_neg (by decide),if_neg (by decide),if_neg (by decide),if_neg (by decide),if_neg (by decide),if_pos rfl,rep_one]
   simp [List.count_append]
  rw [e]
  unfold nodesN
  rw [if_neg (by decide),if_pos rfl]
  exact decide_eq_true (by omega)
theorem read_right {ws:List (List UInt8)} {d:Cd} (h:readC ws = .ok d):RightC d/\d.name = ws.getD 0 []/\ws ≠ []:=by
 unfold readC at h
 split at h
 ·
  cases h
 rename_i hn
 have hne:ws ≠ []:=fun e => hn (.inl e)
 have hdv:devB (ws.getD 0 []) = true:=by
  cases e:devB (ws.getD 0 []) with
  | true => rfl
  | false => exact absurd (.inr e) hn
 have hk:=dev_kind hdv
 obtain ⟨q,hq⟩:∃ q,q = headC ws:=⟨_,rfl⟩
 have hq':(ws.getD 0 []).getD 0 0 = q:=hq.symm
 rw [hq'] at hk
 rw [<- hq] at h
 cases hp:partsOf ws (cshape q ws) with
 | error e => simp only [hp] at h; cases h
 | ok p =>
  simp only [hp] at h
  obtain ⟨p1,p2,p3,p4,p5,p6,p7⟩:=parts_inv hp
  obtain ⟨s1,s2,s3,s4⟩:=shape_facts ws hk
  have hd:cardS ws p = d/\¬ (zeroC ((cardS ws p).name.getD 0 0) = true/\(cardS ws p).val = (0,0))/\¬ (waveC ((cardS ws p).name.getD 0 0) = true/\okW (cardS ws p).kind (cardS ws p).vals (cardS ws p).steps = false):=by
   unfold endC at h
   split at h
   ·
    cases h
   split at h
   ·
    cases h
   ·
    rename_i a b
    cases h
    exact ⟨rfl,a,b⟩
  obtain ⟨rfl,hz,hw⟩:=hd
  have hnm:(cardS ws p).name = ws.getD 0 []:=by
   unfold cardS
   split
   ·
    rfl
   split <;> rfl
  have hnd:(cardS ws p).nodes = p.nodes:=by
   unfold cardS
   split
   ·
    rfl
   split <;> rfl
  have hrf:(cardS ws p).ref = p.name:=by
   unfold cardS
   split
   ·
    rfl
   split <;> rfl
  rw [hnm,hq'] at hz hw
  refine ⟨⟨by rw [hnm]; exact hdv,?_,?_,?_,?_,?_⟩,hnm,hne⟩
  ·
   rw [hnm,hq',hnd,p1]; exact s1
  ·
   rw [hnd]; exact p2
  ·
   rw [hnm,hq',hrf]
   by_cases hr:refC q = true
   ·
    rw [if_pos hr]
    exact ⟨p4 (s2 hr),fun e => p5 (s4 e).1 (s4 e).2⟩
   ·
    rw [if_neg hr]
    have:=s3 (by simpa using hr)
    exact p3 this.1 this.2
  ·
   rw [hnm,hq']
   by_cases hv:valueC q = true
   ·
    rw [if_pos hv]
    have hnw:waveC q = false:=by
     unfold kindsL at hk
     simp only [List.mem_cons,List.not_mem_nil,or_false] at hk
     rcases hk with rfl | rfl | rfl | rfl | rfl | rfl | rfl | rfl | rfl | rfl | rfl | rfl | rfl <;> first | rfl | exact absurd hv (by decide)
    have hcv:(cardS ws p).val = p.nums.getD 0 (0,0):=by
     unfold cardS
     rw [<- hq,if_neg (by rw [hnw]; decide),if_pos hv]
    have hl:0 < p.nums.length:=by rw [p6]; exact cshape_value ws hv
    have hok:okN (p.nums.getD 0 (0,0)).1 (p.nums.getD 0 (0,0)).2 = true:=by
     cases hnn:p.nums with
     | nil => rw [hnn] at hl; exact absurd hl (by decide)
     | cons v t => exact p7 v (by rw [hnn]; simp)
    rw [hcv] at hz ⊢
    refine ⟨hok,fun hzc h0 => hz ⟨hzc,?_⟩⟩
    have:=Q.okN_iff.1 hok
    have h1:(p.nums.getD 0 (0,0)).2 = 0:=by
     rcases this with e | e
     ·
      exact e.2
     ·
      exact absurd h0 e.1
    exact Prod.ext h0 h1
   ·
    rw [if_neg hv]
    unfold cardS
    rw [<- hq]
    split <;> rfl
  ·
   rw [hnm,hq']
   by_cases hwv:waveC q = true
   ·
    rw [if_pos hwv]
    cases e:okW (cardS ws p).kind (cardS ws p).vals (cardS ws p).steps with
    | true => rfl
    | false => exact absurd ⟨hwv,e⟩ hw
   ·
    rw [if_neg hwv]
    unfold cardS
    rw [<- hq,if_neg hwv]
    split <;> exact ⟨rfl,rfl,rfl⟩
theorem right_write {c:Cd} (h:RightC c):writeC c = some (cwords c):=by
 unfold writeC
 rw [if_pos h.dev,right_read c h]
 simp
theorem cwords_head (c:Cd):(cwords c).getD 0 [] = c.name/\cwords c ≠ []:=by
 unfold cwords
 simp
theorem read_back {ws:List (List UInt8)} {d:Cd} (h:readC ws = .ok d):RightC d/\writeC d = some (cwords d)/\readC (cwords d) = .ok d/\(cwords d).getD 0 [] = ws.getD 0 []:=by
 obtain ⟨hr,hn,_⟩:=read_right h
 exact ⟨hr,right_write hr,right_read d hr,by rw [(cwords_head d).1,hn]⟩
open Q (parseOf okN textOf)
def formC (c:UInt8) (ws:List (List UInt8)):List UInt8 :=
 if c = 114 ∨ c = 99 ∨ c = 108 then [110,110,88]
 else if c = 101 ∨ c = 103 ∨ c = 116 then [110,110,110,110,88]
 else if c = 102 ∨ c = 104 then [110,110,82,88]
 else if c = 100 then [110,110,82]
 else if c = 115 then [110,110,110,110,82]
 else if c = 120 then (if ws.length - 2 < 1 ∨ 8 < ws.length - 2 then [] else Lib.repeatL [110] (ws.length - 2) ++ [82])
 else if ws.length < 4 then []
 else if ws.getD 3 [] = [100,99] then [110,110,46,88]
 else if ws.getD 3 [] = [112,117,108,115,101] then [110,110,46,88,88,83,83,83,83,83]
 else if ws.getD 3 [] = [112,119,108] then (if ws.length = 4 then [] else [110,110,46] ++ Lib.repeatL [83,88] (min ((ws.length - 3) / 2) 16))
 else if ws.getD 3 [] = [116,97,98,108,101] then (if ws.length = 4 then [] else [110,110,46] ++ Lib.repeatL [88] (min (ws.length - 4) 16))
 else [110,110,88]
def onStep (vk:Bool) (p:Pt) (c:UInt8) (x:List UInt8):Except Int Pt :=
 if c = 110 then (if okName x = true then .ok { p with nodes:=p.nodes ++ [x] } else .error 71)
 else if c = 82 then (if okName x = true/\(vk = true->x.getD 0 0 = 118) then .ok { p with name:=x } else .error 71)
 else if c = 88 then (if (parseOf x).2.2 = 0 then .ok { p with nums:=p.nums ++ [((parseOf x).1,(parseOf x).2.1)] } else .error (parseOf x).2.2)
 else if c = 83 then (if (stepT x).2 = true then .ok { p with steps:=p.steps ++ [(stepT x).1] } else .error 3)
 else .ok p
def onAll (vk:Bool) (p:Pt):List (UInt8 × List UInt8)->Except Int Pt
 | [] => .ok p
 | z :: t => match onStep vk p z.1 z.2 with
  | .error e => .error e
  | .ok q => onAll vk q t
def trC (vk:Bool) (c:UInt8):UInt8:=if c = 82 then (if vk = true then 118 else 109) else if c = 88 then 120 else if c = 83 then 115 else c
def isNm (c:UInt8):Prop:=c = 110 ∨ c = 82 ∨ c = 46
def isNu (c:UInt8):Prop:=c = 88 ∨ c = 83
def trz (vk:Bool) (z:UInt8 × List UInt8):UInt8 × List UInt8:=(trC vk z.1,z.2)
theorem devv {x:List UInt8}:(devB x = true/\x.getD 0 0 = 118) ↔ (okName x = true/\x.getD 0 0 = 118):=by
 unfold devB
 constructor
 ·
  rintro ⟨h,e⟩; exact ⟨(Bool.and_eq_true _ _ ▸ h).1,e⟩
 ·
  rintro ⟨h,e⟩; rw [h,e]; exact ⟨by decide,rfl⟩
theorem on_nm (vk:Bool) (p:Pt) (c:UInt8) (x:List UInt8) (h:isNm c):onStep vk p c x = match nmStep p (trC vk c) x with
  | none => .error 71
  | some q => .ok q:=by
 rcases h with rfl | rfl | rfl
 ·
  have e1:onStep vk p 110 x = if okName x = true then .ok { p with nodes:=p.nodes ++ [x] } else .error 71:=rfl
  have e2:nmStep p (trC vk 110) x = if okName x = true then some { p with nodes:=p.nodes ++ [x] } else none:=rfl
  rw [e1,e2]
  by_cases e:okName x = true
  ·
   rw [if_pos e,if_pos e]
  ·
   rw [if_neg e,if_neg e]
 ·
  cases vk
  ·
   have e1:onStep false p 82 x = if okName x = true/\(false = true->x.getD 0 0 = 118) then .ok { p with name:=x } else .error 71:=rfl
   have e2:nmStep p (trC false 82) x = if okName x = true then some { p with name:=x } else none:=rfl
   rw [e1,e2]
   by_cases e:okName x = true
   ·
    rw [if_pos ⟨e,fun h => by cases h⟩,if_pos e]
   ·
    rw [if_neg (fun h => e h.1),if_neg e]
  ·
   have e1:onStep true p 82 x = if okName x = true/\(true = true->x.getD 0 0 = 118) then .ok { p with name:=x } else .error 71:=rfl
   have e2:nmStep p (trC true 82) x = if devB x = true/\x.getD 0 0 = 118 then some { p with name:=x } else none:=rfl
   rw [e1,e2]
   by_cases e:okName x = true/\x.getD 0 0 = 118
   ·
    rw [if_pos ⟨e.1,fun _ => e.2⟩,if_pos (devv.2 e)]
   ·
    rw [if_neg (fun h => e ⟨h.1,h.2 rfl⟩),if_neg (fun h => e (devv.1 h))]
 ·
  rfl
theorem on_nu (vk:Bool) (p:Pt) (c:UInt8) (x:List UInt8) (h:isNu c):onStep vk p c x = nuStep p (trC vk c) x:=by
 rcases h with rfl | rfl <;> rfl
theorem nm_nu {vk:Bool} {p:Pt} {c:UInt8} {x:List UInt8} (h:isNm c):nuStep p (trC vk c) x = .ok p:=by
 rcases h with rfl | rfl | rfl
 ·
  rfl
 ·
  cases vk <;> rfl
 ·
  rfl
theorem nu_nm {vk:Bool} {p:Pt} {c:UInt8} {x:List UInt8} (h:isNu c):nmStep p (trC vk c) x = some p:=by
 rcases h with rfl | rfl <;> rfl
theorem nuAll_nm {vk:Bool}:∀ (zs ys:List (UInt8 × List UInt8)) (p:Pt),(∀ z ∈ zs,isNm z.1)->nuAll p (zs.map (trz vk) ++ ys) = nuAll p ys
 | [],ys,p,_ => rfl
 | z :: t,ys,p,h => by
  show (match nuStep p (trC vk z.1) z.2 with
   | .error e => Except.error e
   | .ok q => nuAll q (t.map (trz vk) ++ ys)) = _
  rw [nm_nu (h z (by simp))]
  exact nuAll_nm t ys p (fun y hy => h y (by simp [hy]))
theorem nmAll_nu {vk:Bool}:∀ (zs:List (UInt8 × List UInt8)) (p:Pt),(∀ z ∈ zs,isNu z.1)->nmAll p (zs.map (trz vk)) = some p
 | [],p,_ => rfl
 | z :: t,p,h => by
  show (match nmStep p (trC vk z.1) z.2 with
   | none => none
   | some q => nmAll q (t.map (trz vk))) = _
  rw [nu_nm (h z (by simp))]
  exact nmAll_nu t p (fun y hy => h y (by simp [hy]))
theorem onAll_nu {vk:Bool}:∀ (zs:List (UInt8 × List UInt8)) (p:Pt),(∀ z ∈ zs,isNu z.1)->onAll vk p zs = nuAll p (zs.map (trz vk))
 | [],p,_ => rfl
 | z :: t,p,h => by
  show (match onStep vk p z.1 z.2 with
   | .error e => Except.error e
   | .ok q => onAll vk q t) = match nuStep p (trC vk z.1) z.2 with
   | .error e => .error e
   | .ok q => nuAll q (t.map (trz vk))
  rw [on_nu vk p z.1 z.2 (h z (by simp))]
  cases nuStep p (trC vk z.1) z.2 with
  | error e => rfl
  | ok q => exact onAll_nu t q (fun y hy => h y (by simp [hy]))
theorem onAll_two {vk:Bool}:∀ (us vs:List (UInt8 × List UInt8)) (p:Pt),(∀ z ∈ us,isNm z.1)->(∀ z ∈ vs,isNu z.1)->onAll vk p (us ++ vs) = match nmAll p ((us ++ vs).map (trz vk)) with
  | none => .error 71
  | some q => nuAll q (vs.map (trz vk))
 | [],vs,p,_,hb => by
  show onAll vk p vs = match nmAll p (vs.map (trz vk)) with
   | none => .error 71
   | some q => nuAll q (vs.map (trz vk))
  rw [nmAll_nu vs p hb,onAll_nu vs p hb]
 | z :: t,vs,p,ha,hb => by
  show (match onStep vk p z.1 z.2 with
   | .error e => Except.error e
   | .ok q => onAll vk q (t ++ vs)) = match (match nmStep p (trC vk z.1) z.2 with
    | none => none
    | some q => nmAll q ((t ++ vs).map (trz vk))) with
   | none => .error 71
   | some q => nuAll q (vs.map (trz vk))
  rw [on_nm vk p z.1 z.2 (ha z (by simp))]
  cases nmStep p (trC vk z.1) z.2 with
  | none => rfl
  | some q => exact onAll_two t vs q (fun y hy => ha y (by simp [hy])) hb
def NF (f:List UInt8):Prop:=∃ a b,f = a ++ b/\(∀ c ∈ a,isNm c)/\∀ c ∈ b,isNu c
theorem on_parts {vk:Bool} {f:List UInt8} {x:List UInt8} {t:List (List UInt8)} (hf:NF f) (hl:t.length = f.length):onAll vk Pt.zero (f.zip t) = partsOf (x :: t) (46 :: f.map (trC vk)):=by
 obtain ⟨a,b,rfl,ha,hb⟩:=hf
 have hz:(a ++ b).zip t = a.zip (t.take a.length) ++ b.zip (t.drop a.length):=by
  conv => lhs; rw [<- List.take_append_drop a.length t]
  rw [List.length_append] at hl
  exact List.zip_append (by rw [List.length_take]; omega)
 have h1:∀ z ∈ a.zip (t.take a.length),isNm z.1:=fun z hz => ha z.1 (List.of_mem_zip hz).1
 have h2:∀ z ∈ b.zip (t.drop a.length),isNu z.1:=fun z hz => hb z.1 (List.of_mem_zip hz).1
 have e:((a ++ b).map (trC vk)).zip t = ((a ++ b).zip t).map (trz vk):=by
  rw [List.zip_map_left]; rfl
 unfold partsOf
 rw [if_neg (by rw [List.length_cons,List.length_cons,List.length_map]; omega)]
 show _ = match nmAll Pt.zero ((46,x) :: ((a ++ b).map (trC vk)).zip t) with
  | none => Except.error 71
  | some p => nuAll p ((46,x) :: ((a ++ b).map (trC vk)).zip t)
 rw [e,hz,onAll_two _ _ _ h1 h2]
 show _ = match nmAll Pt.zero ((a.zip (t.take a.length) ++ b.zip (t.drop a.length)).map (trz vk)) with
  | none => Except.error 71
  | some p => nuAll p ((a.zip (t.take a.length) ++ b.zip (t.drop a.length)).map (trz vk))
 cases nmAll Pt.zero ((a.zip (t.take a.length) ++ b.zip (t.drop a.length)).map (trz vk)) with
 | none => rfl
 | some q =>
  show nuAll q _ = nuAll q _
  rw [List.map_append,nuAll_nm _ _ _ h1]
theorem nf_lit {a b:List UInt8} (ha:a.all (fun c => c == 110 || c == 82 || c == 46) = true) (hb:b.all (fun c => c == 88 || c == 83) = true):NF (a ++ b) :=
 ⟨a,b,rfl,fun c hc => by have:=List.all_eq_true.1 ha c hc; simpa [isNm,or_assoc] using this,fun c hc => by have:=List.all_eq_true.1 hb c hc; simpa [isNu] using this⟩
theorem rep_mem2 {l:List UInt8} {c:UInt8}:∀ k,c ∈ Lib.repeatL l k->c ∈ l
 | 0,h => by simp [Lib.repeatL] at h
 | k + 1,h => by
  rcases List.mem_append.1 (show c ∈ l ++ Lib.repeatL l k from h) with h | h
  ·
   exact h
  ·
   exact rep_mem2 k h
theorem rep_map (f:UInt8->UInt8) (l:List UInt8):∀ k,(Lib.repeatL l k).map f = Lib.repeatL (l.map f) k
 | 0 => rfl
 | k + 1 => by
  show (l ++ Lib.repeatL l k).map f = l.map f ++ Lib.repeatL (l.map f) k
  rw [List.map_append,rep_map f l k]
theorem nf_rep {a l:List UInt8} (k:Nat) (ha:a.all (fun c => c == 110 || c == 82 || c == 46) = true) (hb:l.all (fun c => c == 88 || c == 83) = true):NF (a ++ Lib.repeatL l k) :=
 ⟨a,_,rfl,fun c hc => by have:=List.all_eq_true.1 ha c hc; simpa [isNm,or_assoc] using this,fun c hc => by have:=List.all_eq_true.1 hb c (rep_mem2 k hc); simpa [isNu] using this⟩
theorem nf_x (k:Nat):NF (Lib.repeatL [110] k ++ [82]) :=
 ⟨Lib.repeatL [110] k ++ [82],[],by simp,fun c hc => by
  rcases List.mem_append.1 hc with h | h
  ·
   have:=rep_mem2 k h
   exact .inl (by simpa using this)
  ·
   exact .inr (.inl (by simpa using h)),fun c hc => by simp at hc⟩
def vkC (c:UInt8):Bool:=decide (c = 102 ∨ c = 104)
theorem form_shape {q:UInt8} {ws:List (List UInt8)} (hk:q ∈ kindsL) :
  (formC q ws ≠ []/\ws.length = (formC q ws).length + 1->NF (formC q ws)/\cshape q ws = 46 :: (formC q ws).map (trC (vkC q)))/\(¬ (formC q ws ≠ []/\ws.length = (formC q ws).length + 1)->ws.length ≠ (cshape q ws).length):=by
 unfold kindsL at hk
 simp only [List.mem_cons,List.not_mem_nil,or_false] at hk
 have wv:q = 118 ∨ q = 105->(formC q ws ≠ []/\ws.length = (formC q ws).length + 1->NF (formC q ws)/\cshape q ws = 46 :: (formC q ws).map (trC (vkC q)))/\(¬ (formC q ws ≠ []/\ws.length = (formC q ws).length + 1)->ws.length ≠ (cshape q ws).length):=by
  intro hq
  have hf:formC q ws = if ws.length < 4 then []
   else if ws.getD 3 [] = [100,99] then [110,110,46,88]
   else if ws.getD 3 [] = [112,117,108,115,101] then [110,110,46,88,88,83,83,83,83,83]
   else if ws.getD 3 [] = [112,119,108] then (if ws.length = 4 then [] else [110,110,46] ++ Lib.repeatL [83,88] (min ((ws.length - 3) / 2) 16))
   else if ws.getD 3 [] = [116,97,98,108,101] then (if ws.length = 4 then [] else [110,110,46] ++ Lib.repeatL [88] (min (ws.length - 4) 16))
   else [110,110,88]:=by rcases hq with rfl | rfl <;> rfl
  have hc:cshape q ws = [46,110,110] ++ wshape (ws.drop 3):=by rcases hq with rfl | rfl <;> rfl
  have hv:vkC q = false:=by rcases hq with rfl | rfl <;> rfl
  rw [hc,hv]
  by_cases h4:ws.length < 4
  ·
   rw [hf,if_pos h4]
   refine ⟨fun h => absurd rfl h.1,fun _ => ?_⟩
   rw [List.drop_eq_nil_of_le (by omega)]
   show ws.length ≠ 4
   omega
  ·
   have hd:ws.drop 3 = ws.getD 3 [] :: ws.drop 4:=by
    rw [List.drop_eq_getElem_cons (by omega),List.getD_eq_getElem?_getD,List.getElem?_eq_getElem (by omega)]
    rfl
   have hl4:(ws.drop 4).length = ws.length - 4:=List.length_drop
   rw [hf,if_neg h4,hd]
   show _/\(_->ws.length ≠ ([46,110,110] ++ wshape (ws.getD 3 [] :: ws.drop 4)).length)
   rw [wshape]
   by_cases e1:ws.getD 3 [] = [100,99]
   ·
    rw [if_pos e1,if_pos e1]
    exact ⟨fun _ => ⟨nf_lit (a:=[110,110,46]) (b:=[88]) rfl rfl,rfl⟩,fun h e => h ⟨by simp,e⟩⟩
   rw [if_neg e1,if_neg e1]
   by_cases e2:ws.getD 3 [] = [112,117,108,115,101]
   ·
    rw [if_pos e2,if_pos e2]
    exact ⟨fun _ => ⟨nf_lit (a:=[110,110,46]) (b:=[88,88,83,83,83,83,83]) rfl rfl,rfl⟩,fun h e => h ⟨by simp,e⟩⟩
   rw [if_neg e2,if_neg e2]
   by_cases e3:ws.getD 3 [] = [112,119,108]
   ·
    rw [if_pos e3,if_pos e3]
    by_cases h5:ws.length = 4
    ·
     rw [if_pos h5]
     refine ⟨fun h => absurd rfl h.1,fun _ => ?_⟩
     simp only [List.length_append,List.length_cons,List.length_nil,rep_len,hl4]
     omega
    ·
     rw [if_neg h5,List.length_append,rep_len]
     simp only [List.length_cons,List.length_nil]
     constructor
     ·
      rintro ⟨_,hl⟩
      refine ⟨nf_rep (a:=[110,110,46]) (l:=[83,88]) _ rfl rfl,?_⟩
      rw [List.map_append,rep_map,hl4,show min (max ((ws.length - 4) / 2) 1) 16 = min ((ws.length - 3) / 2) 16 by omega]
      rfl
     ·
      intro h e
      simp only [List.length_append,List.length_cons,List.length_nil,rep_len,hl4] at e
      exact h ⟨by simp,by omega⟩
   rw [if_neg e3,if_neg e3]
   by_cases e4:ws.getD 3 [] = [116,97,98,108,101]
   ·
    rw [if_pos e4,if_pos e4]
    by_cases h5:ws.length = 4
    ·
     rw [if_pos h5]
     refine ⟨fun h => absurd rfl h.1,fun _ => ?_⟩
     simp only [List.length_append,List.length_cons,List.length_nil,rep_len,hl4]
     omega
    ·
     rw [if_neg h5,List.length_append,rep_len]
     simp only [List.length_cons,List.length_nil]
     constructor
     ·
      rintro ⟨_,hl⟩
      refine ⟨nf_rep (a:=[110,110,46]) (l:=[88]) _ rfl rfl,?_⟩
      rw [List.map_append,rep_map,hl4,show min (max (ws.length - 4) 1) 16 = min (ws.length - 4) 16 by omega]
      rfl
     ·
      intro h e
      simp only [List.length_append,List.length_cons,List.length_nil,rep_len,hl4] at e
      exact h ⟨by simp,by omega⟩
   rw [if_neg e4,if_neg e4]
   exact ⟨fun _ => ⟨nf_lit (a:=[110,110]) (b:=[88]) rfl rfl,rfl⟩,fun h e => h ⟨by simp,e⟩⟩
 have lit:∀ (a b:List UInt8),formC q ws = a ++ b->a ++ b ≠ []->cshape q ws = 46 :: (a ++ b).map (trC (vkC q))->a.all (fun c => c == 110 || c == 82 || c == 46) = true->b.all (fun c => c == 88 || c == 83) = true->(formC q ws ≠ []/\ws.length = (formC q ws).length + 1->NF (formC q ws)/\cshape q ws = 46 :: (formC q ws).map (trC (vkC q)))/\(¬ (formC q ws ≠ []/\ws.length = (formC q ws).length + 1)->ws.length ≠ (cshape q ws).length):=by
  intro a b h1 h2 h3 h4 h5
  rw [h1]
  refine ⟨fun _ => ⟨nf_lit h4 h5,h3⟩,fun h e => h ⟨h2,?_⟩⟩
  rw [h3,List.length_cons,List.length_map] at e
  exact e
 rcases hk with rfl | rfl | rfl | rfl | rfl | rfl | rfl | rfl | rfl | rfl | rfl | rfl | rfl
 ·
  exact lit [110,110] [88] rfl (by decide) rfl rfl rfl
 ·
  exact lit [110,110] [88] rfl (by decide) rfl rfl rfl
 ·
  exact lit [110,110] [88] rfl (by decide) rfl rfl rfl
 ·
  exact wv (.inl rfl)
 ·
  exact wv (.inr rfl)
 ·
  exact lit [110,110,110,110] [88] rfl (by decide) rfl rfl rfl
 ·
  exact lit [110,110,110,110] [88] rfl (by decide) rfl rfl rfl
 ·
  exact lit [110,110,82] [88] rfl (by decide) rfl rfl rfl
 ·
  exact lit [110,110,82] [88] rfl (by decide) rfl rfl rfl
 ·
  exact lit [110,110,110,110] [88] rfl (by decide) rfl rfl rfl
 ·
  exact lit [110,110,82] [] rfl (by decide) rfl rfl rfl
 ·
  exact lit [110,110,110,110,82] [] rfl (by decide) rfl rfl rfl
 ·
  have hf:formC 120 ws = if ws.length - 2 < 1 ∨ 8 < ws.length - 2 then [] else Lib.repeatL [110] (ws.length - 2) ++ [82]:=rfl
  have hc:cshape 120 ws = 46 :: (Lib.repeatL [110] (min (max (ws.length - 2) 1) 8) ++ [109]):=rfl
  rw [hf,hc]
  by_cases h:ws.length - 2 < 1 ∨ 8 < ws.length - 2
  ·
   rw [if_pos h]
   refine ⟨fun h => absurd rfl h.1,fun _ => ?_⟩
   rw [List.length_cons,List.length_append,rep_len]
   simp only [List.length_cons,List.length_nil]
   omega
  ·
   rw [if_neg h]
   constructor
   ·
    intro _
    refine ⟨nf_x _,?_⟩
    rw [List.map_append,rep_map,show min (max (ws.length - 2) 1) 8 = ws.length - 2 by omega]
    rfl
   ·
    intro h' e
    refine h' ⟨by simp,?_⟩
    rw [List.length_append,rep_len]
    simp only [List.length_cons,List.length_nil]
    omega
def rendC (c:Cd):Except Int Cd :=
 if waveC (c.name.getD 0 0) = true then (if okW c.kind c.vals c.steps = false then .error 40 else .ok c)
 else if zeroC (c.name.getD 0 0) = true/\c.val.1 = 0 then .error 11 else .ok c
def rreadC (ws:List (List UInt8)):Except Int Cd :=
 if ws = [] ∨ devB (ws.getD 0 []) = false then .error 70 else
 if formC (headC ws) ws = [] ∨ ws.length ≠ (formC (headC ws) ws).length + 1 then .error 70 else
 match onAll (vkC (headC ws)) Pt.zero ((formC (headC ws) ws).zip (ws.drop 1)) with
 | .error e => .error e
 | .ok p => rendC (cardS ws p)
theorem cardS_name (ws:List (List UInt8)) (p:Pt):(cardS ws p).name = ws.getD 0 []:=by
 unfold cardS
 split
 ·
  rfl
 split <;> rfl
theorem rread_eq (ws:List (List UInt8)):rreadC ws = readC ws:=by
 unfold rreadC readC
 split
 ·
  rfl
 rename_i hn
 have hne:ws ≠ []:=fun e => hn (.inl e)
 have hdv:devB (ws.getD 0 []) = true:=by
  cases e:devB (ws.getD 0 []) with
  | true => rfl
  | false => exact absurd (.inr e) hn
 have hk:=dev_kind hdv
 have hk':headC ws ∈ kindsL:=hk
 obtain ⟨f1,f2⟩:=form_shape (ws:=ws) hk'
 split
 ·
  rename_i h
  have:=f2 (fun e => by rcases h with h | h; exact e.1 h; exact h e.2)
  unfold partsOf
  rw [if_pos this]
 ·
  rename_i h
  have h1:formC (headC ws) ws ≠ []:=fun e => h (.inl e)
  have h2:ws.length = (formC (headC ws) ws).length + 1:=by
   rcases Nat.decEq ws.length ((formC (headC ws) ws).length + 1) with e | e
   ·
    exact absurd (.inr e) h
   ·
    exact e
  obtain ⟨hf,hs⟩:=f1 ⟨h1,h2⟩
  obtain ⟨x,t,rfl⟩:∃ x t,ws = x :: t:=by
   cases ws with
   | nil => exact absurd rfl hne
   | cons x t => exact ⟨x,t,rfl⟩
  rw [hs]
  have e:=on_parts (vk:=vkC (headC (x :: t))) (x:=x) (t:=t) hf (by rw [List.length_cons] at h2; omega)
  show (match onAll (vkC (headC (x :: t))) Pt.zero ((formC (headC (x :: t)) (x :: t)).zip t) with
   | .error e => Except.error e
   | .ok p => rendC (cardS (x :: t) p)) = _
  rw [e]
  cases hp:partsOf (x :: t) (46 :: (formC (headC (x :: t)) (x :: t)).map (trC (vkC (headC (x :: t))))) with
  | error e => rfl
  | ok p =>
   show rendC (cardS (x :: t) p) = endC (cardS (x :: t) p)
   rw [<- hs] at hp
   obtain ⟨p1,p2,p3,p4,p5,p6,p7⟩:=parts_inv hp
   unfold rendC endC
   rw [cardS_name]
   obtain ⟨q,hq⟩:∃ q,q = headC (x :: t):=⟨_,rfl⟩
   have hq':((x :: t).getD 0 []).getD 0 0 = q:=hq.symm
   rw [hq'] at hk ⊢
   by_cases hw:waveC q = true
   ·
    have hz:zeroC q = false:=by
     cases e:zeroC q with
     | false => rfl
     | true => exact absurd (wave_not_zero q e) (by rw [hw]; decide)
    have hzz:¬ (zeroC q = true/\(cardS (x :: t) p).val = (0,0)):=by rw [hz]; simp
    rw [if_pos hw,if_neg hzz]
    by_cases ho:okW (cardS (x :: t) p).kind (cardS (x :: t) p).vals (cardS (x :: t) p).steps = false
    ·
     rw [if_pos ho,if_pos ⟨hw,ho⟩]
    ·
     rw [if_neg ho,if_neg (fun h => ho h.2)]
   ·
    rw [if_neg hw]
    by_cases hz:zeroC q = true
    ·
     have hv:valueC q = true:=by
      have:q = 114 ∨ q = 99 ∨ q = 108:=by simpa [zeroC] using hz
      rcases this with rfl | rfl | rfl <;> rfl
     have hcv:(cardS (x :: t) p).val = p.nums.getD 0 (0,0):=by
      unfold cardS
      rw [<- hq,if_neg hw,if_pos hv]
     have hl:0 < p.nums.length:=by rw [p6,<- hq]; exact cshape_value _ hv
     have hok:okN (p.nums.getD 0 (0,0)).1 (p.nums.getD 0 (0,0)).2 = true:=by
      cases hnn:p.nums with
      | nil => rw [hnn] at hl; exact absurd hl (by decide)
      | cons v t => exact p7 v (by rw [hnn]; simp)
     rw [hcv]
     by_cases h0:(p.nums.getD 0 (0,0)).1 = 0
     ·
      have h1:(p.nums.getD 0 (0,0)).2 = 0:=by
       rcases Q.okN_iff.1 hok with e | e
       ·
        exact e.2
       ·
        exact absurd h0 e.1
      rw [if_pos ⟨hz,h0⟩,if_pos ⟨hz,Prod.ext h0 h1⟩]
     ·
      have a1:¬ (zeroC q = true/\(p.nums.getD 0 (0,0)).1 = 0):=fun e => h0 e.2
      have a2:¬ (zeroC q = true/\p.nums.getD 0 (0,0) = (0,0)):=fun e => h0 (congrArg Prod.fst e.2)
      have a3:¬ (waveC q = true/\okW (cardS (x :: t) p).kind (cardS (x :: t) p).vals (cardS (x :: t) p).steps = false):=fun e => hw e.1
      rw [if_neg a1,if_neg a2,if_neg a3]
    ·
     have a1:¬ (zeroC q = true/\(cardS (x :: t) p).val.1 = 0):=fun e => hz e.1
     have a2:¬ (zeroC q = true/\(cardS (x :: t) p).val = (0,0)):=fun e => hz e.1
     have a3:¬ (waveC q = true/\okW (cardS (x :: t) p).kind (cardS (x :: t) p).vals (cardS (x :: t) p).steps = false):=fun e => hw e.1
     rw [if_neg a1,if_neg a2,if_neg a3]
open Q (hid')
open X (bs OwnS RS strs bs_list bs_size)
set_option maxHeartbeats 4000000 in
theorem rform_l114 (b off n c:Nat) (w:World) (s0:ByteArray) (c0:w.cell? ⟨b,off,none⟩ = some (.string s0)) (hn:0 < n) (hsz:0 < s0.size) (eh:s0[0].toNat = 114) :
  Calls Tryz.prog 21 #[.slice (some ⟨b,off,none⟩) n c] w fun e w' => Kept w w'/\e = .returned (.string (bs [110,110,88])):=by
 have hni:(0:Int) < (n:Int):=by omega
 have hszi:(0:Int) < (s0.size:Int):=by omega
 go_enter Tryz.func21,Tryz.ntmps21
 go_wp2_with fail
 go_ret
 exact ⟨Kept.refl _,rfl⟩
set_option maxHeartbeats 4000000 in
theorem rform_l99 (b off n c:Nat) (w:World) (s0:ByteArray) (c0:w.cell? ⟨b,off,none⟩ = some (.string s0)) (hn:0 < n) (hsz:0 < s0.size) (eh:s0[0].toNat = 99) :
  Calls Tryz.prog 21 #[.slice (some ⟨b,off,none⟩) n c] w fun e w' => Kept w w'/\e = .returned (.string (bs [110,110,88])):=by
 have hni:(0:Int) < (n:Int):=by omega
 have hszi:(0:Int) < (s0.size:Int):=by omega
 go_enter Tryz.func21,Tryz.ntmps21
 go_wp2_with fail
 go_ret
 exact ⟨Kept.refl _,rfl⟩
set_option maxHeartbeats 4000000 in
theorem rform_l108 (b off n c:Nat) (w:World) (s0:ByteArray) (c0:w.cell? ⟨b,off,none⟩ = some (.string s0)) (hn:0 < n) (hsz:0 < s0.size) (eh:s0[0].toNat = 108) :
  Calls Tryz.prog 21 #[.slice (some ⟨b,off,none⟩) n c] w fun e w' => Kept w w'/\e = .returned (.string (bs [110,110,88])):=by
 have hni:(0:Int) < (n:Int):=by omega
 have hszi:(0:Int) < (s0.size:Int):=by omega
 go_enter Tryz.func21,Tryz.ntmps21
 go_wp2_with fail
 go_ret
 exact ⟨Kept.refl _,rfl⟩
set_option maxHeartbeats 4000000 in
theorem rform_l101 (b off n c:Nat) (w:World) (s0:ByteArray) (c0:w.cell? ⟨b,off,none⟩ = some (.string s0)) (hn:0 < n) (hsz:0 < s0.size) (eh:s0[0].toNat = 101) :
  Calls Tryz.prog 21 #[.slice (some ⟨b,off,none⟩) n c] w fun e w' => Kept w w'/\e = .returned (.string (bs [110,110,110,110,88])):=by
 have hni:(0:Int) < (n:Int):=by omega
 have hszi:(0:Int) < (s0.size:Int):=by omega
 go_enter Tryz.func21,Tryz.ntmps21
 go_wp2_with fail
 go_ret
 exact ⟨Kept.refl _,rfl⟩
set_option maxHeartbeats 4000000 in
theorem rform_l103 (b off n c:Nat) (w:World) (s0:ByteArray) (c0:w.cell? ⟨b,off,none⟩ = some (.string s0)) (hn:0 < n) (hsz:0 < s0.size) (eh:s0[0].toNat = 103) :
  Calls Tryz.prog 21 #[.slice (some ⟨b,off,none⟩) n c] w fun e w' => Kept w w'/\e = .returned (.string (bs [110,110,110,110,88])):=by
 have hni:(0:Int) < (n:Int):=by omega
 have hszi:(0:Int) < (s0.size:Int):=by omega
 go_enter Tryz.func21,Tryz.ntmps21
 go_wp2_with fail
 go_ret
 exact ⟨Kept.refl _,rfl⟩
set_option maxHeartbeats 4000000 in
theorem rform_l116 (b off n c:Nat) (w:World) (s0:ByteArray) (c0:w.cell? ⟨b,off,none⟩ = some (.string s0)) (hn:0 < n) (hsz:0 < s0.size) (eh:s0[0].toNat = 116) :
  Calls Tryz.prog 21 #[.slice (some ⟨b,off,none⟩) n c] w fun e w' => Kept w w'/\e = .returned (.string (bs [110,110,110,110,88])):=by
 have hni:(0:Int) < (n:Int):=by omega
 have hszi:(0:Int) < (s0.size:Int):=by omega
 go_enter Tryz.func21,Tryz.ntmps21
 go_wp2_with fail
 go_ret
 exact ⟨Kept.refl _,rfl⟩
set_option maxHeartbeats 4000000 in
theorem rform_l102 (b off n c:Nat) (w:World) (s0:ByteArray) (c0:w.cell? ⟨b,off,none⟩ = some (.string s0)) (hn:0 < n) (hsz:0 < s0.size) (eh:s0[0].toNat = 102) :
  Calls Tryz.prog 21 #[.slice (some ⟨b,off,none⟩) n c] w fun e w' => Kept w w'/\e = .returned (.string (bs [110,110,82,88])):=by
 have hni:(0:Int) < (n:Int):=by omega
 have hszi:(0:Int) < (s0.size:Int):=by omega
 go_enter Tryz.func21,Tryz.ntmps21
 go_wp2_with fail
 go_ret
 exact ⟨Kept.refl _,rfl⟩
set_option maxHeartbeats 4000000 in
theorem rform_l104 (b off n c:Nat) (w:World) (s0:ByteArray) (c0:w.cell? ⟨b,off,none⟩ = some (.string s0)) (hn:0 < n) (hsz:0 < s0.size) (eh:s0[0].toNat = 104) :
  Calls Tryz.prog 21 #[.slice (some ⟨b,off,none⟩) n c] w fun e w' => Kept w w'/\e = .returned (.string (bs [110,110,82,88])):=by
 have hni:(0:Int) < (n:Int):=by omega
 have hszi:(0:Int) < (s0.size:Int):=by omega
 go_enter Tryz.func21,Tryz.ntmps21
 go_wp2_with fail
 go_ret
 exact ⟨Kept.refl _,rfl⟩
set_option maxHeartbeats 4000000 in
theorem rform_l100 (b off n c:Nat) (w:World) (s0:ByteArray) (c0:w.cell? ⟨b,off,none⟩ = some (.string s0)) (hn:0 < n) (hsz:0 < s0.size) (eh:s0[0].toNat = 100) :
  Calls Tryz.prog 21 #[.slice (some ⟨b,off,none⟩) n c] w fun e w' => Kept w w'/\e = .returned (.string (bs [110,110,82])):=by
 have hni:(0:Int) < (n:Int):=by omega
 have hszi:(0:Int) < (s0.size:Int):=by omega
 go_enter Tryz.func21,Tryz.ntmps21
 go_wp2_with fail
 go_ret
 exact ⟨Kept.refl _,rfl⟩
set_option maxHeartbeats 4000000 in
theorem rform_l115 (b off n c:Nat) (w:World) (s0:ByteArray) (c0:w.cell? ⟨b,off,none⟩ = some (.string s0)) (hn:0 < n) (hsz:0 < s0.size) (eh:s0[0].toNat = 115) :
  Calls Tryz.prog 21 #[.slice (some ⟨b,off,none⟩) n c] w fun e w' => Kept w w'/\e = .returned (.string (bs [110,110,110,110,82])):=by
 have hni:(0:Int) < (n:Int):=by omega
 have hszi:(0:Int) < (s0.size:Int):=by omega
 go_enter Tryz.func21,Tryz.ntmps21
 go_wp2_with fail
 go_ret
 exact ⟨Kept.refl _,rfl⟩
theorem rep_snoc (c:List UInt8):∀ k,Lib.repeatL c k ++ c = Lib.repeatL c (k + 1)
 | 0 => by simp [Lib.repeatL]
 | k + 1 => by
  show (c ++ Lib.repeatL c k) ++ c = c ++ Lib.repeatL c (k + 1)
  rw [List.append_assoc,rep_snoc c k]
theorem bs_snoc (l:List UInt8) (t:List UInt8):bs l ++ bs t = bs (l ++ t):=bs_app l t
set_option maxRecDepth 100000 in
set_option maxHeartbeats 4000000 in
theorem rform_l120 (b off n c:Nat) (w:World) (s0:ByteArray) (c0:w.cell? ⟨b,off,none⟩ = some (.string s0)) (hn:0 < n) (hsz:0 < s0.size) (eh:s0[0].toNat = 120) (hl:n<=1000000000000000000) :
  Calls Tryz.prog 21 #[.slice (some ⟨b,off,none⟩) n c] w fun e w' => Kept w w'/\e = .returned (.string (bs (if n - 2 < 1 ∨ 8 < n - 2 then [] else Lib.repeatL [110] (n - 2) ++ [82]))):=by
 have hni:(0:Int) < (n:Int):=by omega
 have hszi:(0:Int) < (s0.size:Int):=by omega
 have hwr:IntKind.i64.wrap ((n:Int) - 1) = (n:Int) - 1:=by rw [IntKind.wrap_i64]; omega
 obtain ⟨r,hr⟩:∃ r,r = bs (if n - 2 < 1 ∨ 8 < n - 2 then [] else Lib.repeatL [110] (n - 2) ++ [82]):=⟨_,rfl⟩
 rw [<- hr]
 have HR:=hid' hr
 clear hr
 go_enter Tryz.func21,Tryz.ntmps21
 go_wp2_with fail
 go_loopw [3,4] (fun vf vi wr => ∃ k:Nat,k<=n - 2/\vi = .int .i64 ((k:Int) + 1)/\Hid (vf = .string (bs (Lib.repeatL [110] k))/\wr = w)) (fun _ vi _ => n - (intOf vi).toNat)
 case atStart => exact ⟨0,Nat.zero_le _,rfl,rfl,rfl⟩
 case round =>
  obtain ⟨k,hk,rfl,HK⟩:=hrel
  obtain ⟨hvf,hwr2⟩:=HK.out
  subst hwr2
  subst hvf
  clear HK
  have hsk:(bs (Lib.repeatL [110] k)).size = k:=by rw [bs_size,rep_len]; simp
  have HS:=hid' (bs_snoc (Lib.repeatL [110] k) [110])
  rw [rep_snoc] at HS
  obtain ⟨fk,hfk⟩:∃ t,t = bs (Lib.repeatL [110] k):=⟨_,rfl⟩
  rw [<- hfk] at hsk HS ⊢
  by_cases hkt:k < n - 2
  ·
   have hki:(k:Int) + 1 < (n:Int) - 1:=by omega
   have hlim:¬ 9223372036854775807 < fk.size + 1:=by omega
   have HSK:=hid' hsk
   clear hsk hfk
   go_wp2_with fail
   go_roundw
   case rel => exact ⟨k + 1,by omega,by go_num,by refine ⟨?_,?_⟩ <;> first | trivial | (rw [<- HS.out]; rfl)⟩
   case measure => show n - ((k:Int) + 1 + 1).toNat < n - ((k:Int) + 1).toNat; omega
  ·
   have hki:¬ (k:Int) + 1 < (n:Int) - 1:=by omega
   have hkn:k = n - 2:=by omega
   have HKN:=hid' hkn
   have HFK:=hid' hfk
   by_cases h1:k < 1
   ·
    have h1i:(fk.size:Int) < 1:=by omega
    have h1n:fk.size < 1:=by omega
    have HE:=hid' (show r = bs [] by rw [HR.out,if_pos (by left; omega)])
    clear hkn hfk HS hsk
    go_wp2_with fail
    go_ret
    exact ⟨Kept.refl _,by rw [HE.out]; rfl⟩
   ·
    have h1i:¬ (fk.size:Int) < 1:=by omega
    have h1n:¬ fk.size < 1:=by omega
    by_cases h8:8 < k
    ·
     have h8i:(8:Int) < (fk.size:Int):=by omega
     have h8n:8 < fk.size:=by omega
     have HE:=hid' (show r = bs [] by rw [HR.out,if_pos (by right; omega)])
     clear hkn hfk HS hsk
     go_wp2_with fail
     go_ret
     exact ⟨Kept.refl _,by rw [HE.out]; rfl⟩
    ·
     have h8i:¬ (8:Int) < (fk.size:Int):=by omega
     have h8n:¬ 8 < fk.size:=by omega
     have hlim:¬ 9223372036854775807 < fk.size + 1:=by omega
     have HE:=hid' (show r = fk ++ bs [82] by rw [HR.out,if_neg (by omega),<- HKN.out,HFK.out,bs_snoc])
     clear hkn hfk HS hsk
     go_wp2_with fail
     go_ret
     exact ⟨Kept.refl _,by rw [HE.out]; rfl⟩
set_option maxRecDepth 100000 in
set_option maxHeartbeats 8000000 in
theorem rform_l118 (b off n c:Nat) (w:World) (s0 s3:ByteArray) (c0:w.cell? ⟨b,off,none⟩ = some (.string s0)) (c3:w.cell? ⟨b,off + 3,none⟩ = some (.string s3)) (hn:3 < n) (hsz:0 < s0.size) (eh:s0[0].toNat = 118) (hl:n<=1000000000000000000) :
  Calls Tryz.prog 21 #[.slice (some ⟨b,off,none⟩) n c] w fun e w' => Kept w w'/\e = .returned (.string (bs (if s3.toList = [100,99] then [110,110,46,88]
   else if s3.toList = [112,117,108,115,101] then [110,110,46,88,88,83,83,83,83,83]
   else if s3.toList = [112,119,108] then (if n = 4 then [] else [110,110,46] ++ Lib.repeatL [83,88] (min ((n - 3) / 2) 16))
   else if s3.toList = [116,97,98,108,101] then (if n = 4 then [] else [110,110,46] ++ Lib.repeatL [88] (min (n - 4) 16))
   else [110,110,88]))):=by
 have hni:(0:Int) < (n:Int):=by omega
 have hn0:0 < n:=by omega
 have hn3i:(3:Int) < (n:Int):=by omega
 have hn4i:¬ (n:Int) < 4:=by omega
 have hszi:(0:Int) < (s0.size:Int):=by omega
 obtain ⟨r,hr⟩:∃ r,r = bs (if s3.toList = [100,99] then [110,110,46,88]
   else if s3.toList = [112,117,108,115,101] then [110,110,46,88,88,83,83,83,83,83]
   else if s3.toList = [112,119,108] then (if n = 4 then [] else [110,110,46] ++ Lib.repeatL [83,88] (min ((n - 3) / 2) 16))
   else if s3.toList = [116,97,98,108,101] then (if n = 4 then [] else [110,110,46] ++ Lib.repeatL [88] (min (n - 4) 16))
   else [110,110,88]):=⟨_,rfl⟩
 rw [<- hr]
 have HR:=hid' hr
 clear hr
 by_cases e1:s3.toList = [100,99]
 ·
  have b1:(s3.toList == [100,99]) = true:=by rw [e1]; rfl
  have HE:=hid' (show r = bs [110,110,46,88] by rw [HR.out,if_pos e1])
  clear HR
  go_enter Tryz.func21,Tryz.ntmps21
  go_wp2_with fail
  go_ret
  exact ⟨Kept.refl _,by rw [HE.out]; rfl⟩
 have b1:(s3.toList == [100,99]) = false:=by simpa using e1
 rw [if_neg e1] at HR
 by_cases e2:s3.toList = [112,117,108,115,101]
 ·
  have b2:(s3.toList == [112,117,108,115,101]) = true:=by rw [e2]; rfl
  have HE:=hid' (show r = bs [110,110,46,88,88,83,83,83,83,83] by rw [HR.out,if_pos e2])
  clear HR
  go_enter Tryz.func21,Tryz.ntmps21
  go_wp2_with fail
  go_ret
  exact ⟨Kept.refl _,by rw [HE.out]; rfl⟩
 have b2:(s3.toList == [112,117,108,115,101]) = false:=by simpa using e2
 rw [if_neg e2] at HR
 by_cases e3:s3.toList = [112,119,108]
 ·
  have b3:(s3.toList == [112,119,108]) = true:=by rw [e3]; rfl
  rw [if_pos e3] at HR
  clear e3
  go_enter Tryz.func21,Tryz.ntmps21
  go_wp2_with fail
  go_loopw [5,6] (fun vf vi wr => ∃ k:Nat,k<=min ((n - 3) / 2) 16/\vi = .int .i64 ((k:Int) * 2 + 4)/\Hid (vf = .string (bs ([110,110,46] ++ Lib.repeatL [83,88] k))/\wr = w)) (fun _ vi _ => n + 1 - (intOf vi).toNat)
  case atStart => exact ⟨0,Nat.zero_le _,rfl,rfl,rfl⟩
  case round =>
   obtain ⟨k,hk,rfl,HK⟩:=hrel
   obtain ⟨hvf,hwr2⟩:=HK.out
   subst hwr2
   subst hvf
   clear HK
   have hsk:(bs ([110,110,46] ++ Lib.repeatL [83,88] k)).size = 3 + k * 2:=by rw [bs_size,List.length_append,rep_len]; rfl
   have HS:=hid' (bs_snoc ([110,110,46] ++ Lib.repeatL [83,88] k) [83,88])
   rw [List.append_assoc,rep_snoc] at HS
   obtain ⟨fk,hfk⟩:∃ t,t = bs ([110,110,46] ++ Lib.repeatL [83,88] k):=⟨_,rfl⟩
   rw [<- hfk] at hsk HS ⊢
   have HFK:=hid' hfk
   by_cases hkt:k < min ((n - 3) / 2) 16
   ·
    have hki:(k:Int) * 2 + 4 < (n:Int):=by omega
    have hkj:(k:Int) * 2 + 4 < 36:=by omega
    have hlim:¬ 9223372036854775807 < fk.size + 2:=by omega
    clear hsk hfk
    go_wp2_with fail
    go_roundw
    case rel => exact ⟨k + 1,by omega,by go_num,by refine ⟨?_,?_⟩ <;> first | trivial | (rw [<- HS.out]; rfl)⟩
    case measure => show n + 1 - ((k:Int) * 2 + 4 + 2).toNat < n + 1 - ((k:Int) * 2 + 4).toNat; omega
   ·
    have hkn:k = min ((n - 3) / 2) 16:=by omega
    have HKN:=hid' hkn
    by_cases hn4:n = 4
    ·
     have hki:¬ (k:Int) * 2 + 4 < (n:Int):=by omega
     have hs3:fk.size = 3:=by omega
     have hs3':((fk.size:Int) == 3) = true:=by rw [hs3]; rfl
     have HE:=hid' (show r = bs [] by rw [HR.out,if_pos hn4])
     clear hkn hfk HS hsk
     go_wp2_with fail
     go_ret
     exact ⟨Kept.refl _,by rw [HE.out]; rfl⟩
    ·
     have hs3:¬ fk.size = 3:=by omega
     have hs3i:¬ (fk.size:Int) = 3:=by omega
     have hs3':((fk.size:Int) == 3) = false:=by simpa using hs3i
     have HE:=hid' (show r = fk by rw [HR.out,if_neg hn4,HFK.out,HKN.out])
     by_cases hki:(k:Int) * 2 + 4 < (n:Int)
     ·
      have hkj:¬ (k:Int) * 2 + 4 < 36:=by omega
      clear hkn hfk HS hsk
      go_wp2_with fail
      go_ret
      exact ⟨Kept.refl _,by rw [HE.out]; rfl⟩
     ·
      clear hkn hfk HS hsk
      go_wp2_with fail
      go_ret
      exact ⟨Kept.refl _,by rw [HE.out]; rfl⟩
 have b3:(s3.toList == [112,119,108]) = false:=by simpa using e3
 rw [if_neg e3] at HR
 by_cases e4:s3.toList = [116,97,98,108,101]
 ·
  have b4:(s3.toList == [116,97,98,108,101]) = true:=by rw [e4]; rfl
  rw [if_pos e4] at HR
  clear e4
  go_enter Tryz.func21,Tryz.ntmps21
  go_wp2_with fail
  go_loopw [7,8] (fun vf vi wr => ∃ k:Nat,k<=min (n - 4) 16/\vi = .int .i64 ((k:Int) + 4)/\Hid (vf = .string (bs ([110,110,46] ++ Lib.repeatL [88] k))/\wr = w)) (fun _ vi _ => n + 1 - (intOf vi).toNat)
  case atStart => exact ⟨0,Nat.zero_le _,rfl,rfl,rfl⟩
  case round =>
   obtain ⟨k,hk,rfl,HK⟩:=hrel
   obtain ⟨hvf,hwr2⟩:=HK.out
   subst hwr2
   subst hvf
   clear HK
   have hsk:(bs ([110,110,46] ++ Lib.repeatL [88] k)).size = 3 + k * 1:=by rw [bs_size,List.length_append,rep_len]; rfl
   have HS:=hid' (bs_snoc ([110,110,46] ++ Lib.repeatL [88] k) [88])
   rw [List.append_assoc,rep_snoc] at HS
   obtain ⟨fk,hfk⟩:∃ t,t = bs ([110,110,46] ++ Lib.repeatL [88] k):=⟨_,rfl⟩
   rw [<- hfk] at hsk HS ⊢
   have HFK:=hid' hfk
   by_cases hkt:k < min (n - 4) 16
   ·
    have hki:(k:Int) + 4 < (n:Int):=by omega
    have hkj:(k:Int) + 4 < 20:=by omega
    have hlim:¬ 9223372036854775807 < fk.size + 1:=by omega
    clear hsk hfk
    go_wp2_with fail
    go_roundw
    case rel => exact ⟨k + 1,by omega,by go_num,by refine ⟨?_,?_⟩ <;> first | trivial | (rw [<- HS.out]; rfl)⟩
    case measure => show n + 1 - ((k:Int) + 4 + 1).toNat < n + 1 - ((k:Int) + 4).toNat; omega
   ·
    have hkn:k = min (n - 4) 16:=by omega
    have HKN:=hid' hkn
    by_cases hn4:n = 4
    ·
     have hki:¬ (k:Int) + 4 < (n:Int):=by omega
     have hs3:fk.size = 3:=by omega
     have hs3':((fk.size:Int) == 3) = true:=by rw [hs3]; rfl
     have HE:=hid' (show r = bs [] by rw [HR.out,if_pos hn4])
     clear hkn hfk HS hsk
     go_wp2_with fail
     go_ret
     exact ⟨Kept.refl _,by rw [HE.out]; rfl⟩
    ·
     have hs3:¬ fk.size = 3:=by omega
     have hs3i:¬ (fk.size:Int) = 3:=by omega
     have hs3':((fk.size:Int) == 3) = false:=by simpa using hs3i
     have HE:=hid' (show r = fk by rw [HR.out,if_neg hn4,HFK.out,HKN.out])
     by_cases hki:(k:Int) + 4 < (n:Int)
     ·
      have hkj:¬ (k:Int) + 4 < 20:=by omega
      clear hkn hfk HS hsk
      go_wp2_with fail
      go_ret
      exact ⟨Kept.refl _,by rw [HE.out]; rfl⟩
     ·
      clear hkn hfk HS hsk
      go_wp2_with fail
      go_ret
      exact ⟨Kept.refl _,by rw [HE.out]; rfl⟩
 have b4:(s3.toList == [116,97,98,108,101]) = false:=by simpa using e4
 rw [if_neg e4] at HR
 go_enter Tryz.func21,Tryz.ntmps21
 go_wp2_with fail
 go_ret
 exact ⟨Kept.refl _,by rw [HR.out]; rfl⟩
set_option maxHeartbeats 4000000 in
theorem rform_s118 (b off n c:Nat) (w:World) (s0:ByteArray) (c0:w.cell? ⟨b,off,none⟩ = some (.string s0)) (hn:0 < n) (hn4:n < 4) (hsz:0 < s0.size) (eh:s0[0].toNat = 118) :
  Calls Tryz.prog 21 #[.slice (some ⟨b,off,none⟩) n c] w fun e w' => Kept w w'/\e = .returned (.string (bs [])):=by
 have hni:(0:Int) < (n:Int):=by omega
 have hn4i:(n:Int) < 4:=by omega
 have hszi:(0:Int) < (s0.size:Int):=by omega
 go_enter Tryz.func21,Tryz.ntmps21
 go_wp2_with fail
 go_ret
 exact ⟨Kept.refl _,rfl⟩
set_option maxRecDepth 100000 in
set_option maxHeartbeats 8000000 in
theorem rform_l105 (b off n c:Nat) (w:World) (s0 s3:ByteArray) (c0:w.cell? ⟨b,off,none⟩ = some (.string s0)) (c3:w.cell? ⟨b,off + 3,none⟩ = some (.string s3)) (hn:3 < n) (hsz:0 < s0.size) (eh:s0[0].toNat = 105) (hl:n<=1000000000000000000) :
  Calls Tryz.prog 21 #[.slice (some ⟨b,off,none⟩) n c] w fun e w' => Kept w w'/\e = .returned (.string (bs (if s3.toList = [100,99] then [110,110,46,88]
   else if s3.toList = [112,117,108,115,101] then [110,110,46,88,88,83,83,83,83,83]
   else if s3.toList = [112,119,108] then (if n = 4 then [] else [110,110,46] ++ Lib.repeatL [83,88] (min ((n - 3) / 2) 16))
   else if s3.toList = [116,97,98,108,101] then (if n = 4 then [] else [110,110,46] ++ Lib.repeatL [88] (min (n - 4) 16))
   else [110,110,88]))):=by
 have hni:(0:Int) < (n:Int):=by omega
 have hn0:0 < n:=by omega
 have hn3i:(3:Int) < (n:Int):=by omega
 have hn4i:¬ (n:Int) < 4:=by omega
 have hszi:(0:Int) < (s0.size:Int):=by omega
 obtain ⟨r,hr⟩:∃ r,r = bs (if s3.toList = [100,99] then [110,110,46,88]
   else if s3.toList = [112,117,108,115,101] then [110,110,46,88,88,83,83,83,83,83]
   else if s3.toList = [112,119,108] then (if n = 4 then [] else [110,110,46] ++ Lib.repeatL [83,88] (min ((n - 3) / 2) 16))
   else if s3.toList = [116,97,98,108,101] then (if n = 4 then [] else [110,110,46] ++ Lib.repeatL [88] (min (n - 4) 16))
   else [110,110,88]):=⟨_,rfl⟩
 rw [<- hr]
 have HR:=hid' hr
 clear hr
 by_cases e1:s3.toList = [100,99]
 ·
  have b1:(s3.toList == [100,99]) = true:=by rw [e1]; rfl
  have HE:=hid' (show r = bs [110,110,46,88] by rw [HR.out,if_pos e1])
  clear HR
  go_enter Tryz.func21,Tryz.ntmps21
  go_wp2_with fail
  go_ret
  exact ⟨Kept.refl _,by rw [HE.out]; rfl⟩
 have b1:(s3.toList == [100,99]) = false:=by simpa using e1
 rw [if_neg e1] at HR
 by_cases e2:s3.toList = [112,117,108,115,101]
 ·
  have b2:(s3.toList == [112,117,108,115,101]) = true:=by rw [e2]; rfl
  have HE:=hid' (show r = bs [110,110,46,88,88,83,83,83,83,83] by rw [HR.out,if_pos e2])
  clear HR
  go_enter Tryz.func21,Tryz.ntmps21
  go_wp2_with fail
  go_ret
  exact ⟨Kept.refl _,by rw [HE.out]; rfl⟩
 have b2:(s3.toList == [112,117,108,115,101]) = false:=by simpa using e2
 rw [if_neg e2] at HR
 by_cases e3:s3.toList = [112,119,108]
 ·
  have b3:(s3.toList == [112,119,108]) = true:=by rw [e3]; rfl
  rw [if_pos e3] at HR
  clear e3
  go_enter Tryz.func21,Tryz.ntmps21
  go_wp2_with fail
  go_loopw [5,6] (fun vf vi wr => ∃ k:Nat,k<=min ((n - 3) / 2) 16/\vi = .int .i64 ((k:Int) * 2 + 4)/\Hid (vf = .string (bs ([110,110,46] ++ Lib.repeatL [83,88] k))/\wr = w)) (fun _ vi _ => n + 1 - (intOf vi).toNat)
  case atStart => exact ⟨0,Nat.zero_le _,rfl,rfl,rfl⟩
  case round =>
   obtain ⟨k,hk,rfl,HK⟩:=hrel
   obtain ⟨hvf,hwr2⟩:=HK.out
   subst hwr2
   subst hvf
   clear HK
   have hsk:(bs ([110,110,46] ++ Lib.repeatL [83,88] k)).size = 3 + k * 2:=by rw [bs_size,List.length_append,rep_len]; rfl
   have HS:=hid' (bs_snoc ([110,110,46] ++ Lib.repeatL [83,88] k) [83,88])
   rw [List.append_assoc,rep_snoc] at HS
   obtain ⟨fk,hfk⟩:∃ t,t = bs ([110,110,46] ++ Lib.repeatL [83,88] k):=⟨_,rfl⟩
   rw [<- hfk] at hsk HS ⊢
   have HFK:=hid' hfk
   by_cases hkt:k < min ((n - 3) / 2) 16
   ·
    have hki:(k:Int) * 2 + 4 < (n:Int):=by omega
    have hkj:(k:Int) * 2 + 4 < 36:=by omega
    have hlim:¬ 9223372036854775807 < fk.size + 2:=by omega
    clear hsk hfk
    go_wp2_with fail
    go_roundw
    case rel => exact ⟨k + 1,by omega,by go_num,by refine ⟨?_,?_⟩ <;> first | trivial | (rw [<- HS.out]; rfl)⟩
    case measure => show n + 1 - ((k:Int) * 2 + 4 + 2).toNat < n + 1 - ((k:Int) * 2 + 4).toNat; omega
   ·
    have hkn:k = min ((n - 3) / 2) 16:=by omega
    have HKN:=hid' hkn
    by_cases hn4:n = 4
    ·
     have hki:¬ (k:Int) * 2 + 4 < (n:Int):=by omega
     have hs3:fk.size = 3:=by omega
     have hs3':((fk.size:Int) == 3) = true:=by rw [hs3]; rfl
     have HE:=hid' (show r = bs [] by rw [HR.out,if_pos hn4])
     clear hkn hfk HS hsk
     go_wp2_with fail
     go_ret
     exact ⟨Kept.refl _,by rw [HE.out]; rfl⟩
    ·
     have hs3:¬ fk.size = 3:=by omega
     have hs3i:¬ (fk.size:Int) = 3:=by omega
     have hs3':((fk.size:Int) == 3) = false:=by simpa using hs3i
     have HE:=hid' (show r = fk by rw [HR.out,if_neg hn4,HFK.out,HKN.out])
     by_cases hki:(k:Int) * 2 + 4 < (n:Int)
     ·
      have hkj:¬ (k:Int) * 2 + 4 < 36:=by omega
      clear hkn hfk HS hsk
      go_wp2_with fail
      go_ret
      exact ⟨Kept.refl _,by rw [HE.out]; rfl⟩
     ·
      clear hkn hfk HS hsk
      go_wp2_with fail
      go_ret
      exact ⟨Kept.refl _,by rw [HE.out]; rfl⟩
 have b3:(s3.toList == [112,119,108]) = false:=by simpa using e3
 rw [if_neg e3] at HR
 by_cases e4:s3.toList = [116,97,98,108,101]
 ·
  have b4:(s3.toList == [116,97,98,108,101]) = true:=by rw [e4]; rfl
  rw [if_pos e4] at HR
  clear e4
  go_enter Tryz.func21,Tryz.ntmps21
  go_wp2_with fail
  go_loopw [7,8] (fun vf vi wr => ∃ k:Nat,k<=min (n - 4) 16/\vi = .int .i64 ((k:Int) + 4)/\Hid (vf = .string (bs ([110,110,46] ++ Lib.repeatL [88] k))/\wr = w)) (fun _ vi _ => n + 1 - (intOf vi).toNat)
  case atStart => exact ⟨0,Nat.zero_le _,rfl,rfl,rfl⟩
  case round =>
   obtain ⟨k,hk,rfl,HK⟩:=hrel
   obtain ⟨hvf,hwr2⟩:=HK.out
   subst hwr2
   subst hvf
   clear HK
   have hsk:(bs ([110,110,46] ++ Lib.repeatL [88] k)).size = 3 + k * 1:=by rw [bs_size,List.length_append,rep_len]; rfl
   have HS:=hid' (bs_snoc ([110,110,46] ++ Lib.repeatL [88] k) [88])
   rw [List.append_assoc,rep_snoc] at HS
   obtain ⟨fk,hfk⟩:∃ t,t = bs ([110,110,46] ++ Lib.repeatL [88] k):=⟨_,rfl⟩
   rw [<- hfk] at hsk HS ⊢
   have HFK:=hid' hfk
   by_cases hkt:k < min (n - 4) 16
   ·
    have hki:(k:Int) + 4 < (n:Int):=by omega
    have hkj:(k:Int) + 4 < 20:=by omega
    have hlim:¬ 9223372036854775807 < fk.size + 1:=by omega
    clear hsk hfk
    go_wp2_with fail
    go_roundw
    case rel => exact ⟨k + 1,by omega,by go_num,by refine ⟨?_,?_⟩ <;> first | trivial | (rw [<- HS.out]; rfl)⟩
    case measure => show n + 1 - ((k:Int) + 4 + 1).toNat < n + 1 - ((k:Int) + 4).toNat; omega
   ·
    have hkn:k = min (n - 4) 16:=by omega
    have HKN:=hid' hkn
    by_cases hn4:n = 4
    ·
     have hki:¬ (k:Int) + 4 < (n:Int):=by omega
     have hs3:fk.size = 3:=by omega
     have hs3':((fk.size:Int) == 3) = true:=by rw [hs3]; rfl
     have HE:=hid' (show r = bs [] by rw [HR.out,if_pos hn4])
     clear hkn hfk HS hsk
     go_wp2_with fail
     go_ret
     exact ⟨Kept.refl _,by rw [HE.out]; rfl⟩
    ·
     have hs3:¬ fk.size = 3:=by omega
     have hs3i:¬ (fk.size:Int) = 3:=by omega
     have hs3':((fk.size:Int) == 3) = false:=by simpa using hs3i
     have HE:=hid' (show r = fk by rw [HR.out,if_neg hn4,HFK.out,HKN.out])
     by_cases hki:(k:Int) + 4 < (n:Int)
     ·
      have hkj:¬ (k:Int) + 4 < 20:=by omega
      clear hkn hfk HS hsk
      go_wp2_with fail
      go_ret
      exact ⟨Kept.refl _,by rw [HE.out]; rfl⟩
     ·
      clear hkn hfk HS hsk
      go_wp2_with fail
      go_ret
      exact ⟨Kept.refl _,by rw [HE.out]; rfl⟩
 have b4:(s3.toList == [116,97,98,108,101]) = false:=by simpa using e4
 rw [if_neg e4] at HR
 go_enter Tryz.func21,Tryz.ntmps21
 go_wp2_with fail
 go_ret
 exact ⟨Kept.refl _,by rw [HR.out]; rfl⟩
set_option maxHeartbeats 4000000 in
theorem rform_s105 (b off n c:Nat) (w:World) (s0:ByteArray) (c0:w.cell? ⟨b,off,none⟩ = some (.string s0)) (hn:0 < n) (hn4:n < 4) (hsz:0 < s0.size) (eh:s0[0].toNat = 105) :
  Calls Tryz.prog 21 #[.slice (some ⟨b,off,none⟩) n c] w fun e w' => Kept w w'/\e = .returned (.string (bs [])):=by
 have hni:(0:Int) < (n:Int):=by omega
 have hn4i:(n:Int) < 4:=by omega
 have hszi:(0:Int) < (s0.size:Int):=by omega
 go_enter Tryz.func21,Tryz.ntmps21
 go_wp2_with fail
 go_ret
 exact ⟨Kept.refl _,rfl⟩
theorem rform_any (ao:Option Addr) (n c:Nat) (ws:List (List UInt8)) (w:World) (h:RS w (.slice ao n c) ws) (hd:devB (ws.getD 0 []) = true) (hne:ws ≠ []) (hl:n<=1000000000000000000) :
  Calls Tryz.prog 21 #[.slice ao n c] w fun e w' => Kept w w'/\e = .returned (.string (bs (formC (headC ws) ws))):=by
 obtain ⟨ao',c',hv,hx⟩:=h
 simp only [Value.slice.injEq] at hv
 obtain ⟨rfl,hn,rfl⟩:=hv
 have h0:0 < ws.length:=List.length_pos_iff.2 hne
 have hn0:0 < n:=by omega
 obtain ⟨b,off,rfl,hb,hcl⟩:=hx h0
 have c0:=hcl 0 h0
 rw [Nat.add_zero] at c0
 have hk:=dev_kind hd
 have hh:=dev_len hd
 obtain ⟨s0,hs0⟩:∃ s,s = bs (ws.getD 0 []):=⟨_,rfl⟩
 rw [<- hs0] at c0
 have hsz:0 < s0.size:=by rw [hs0,bs_size]; exact hh
 have eh:s0[0].toNat = (headC ws).toNat:=by rw [head_of hsz hs0]; rfl
 rw [show (ws.getD 0 []).getD 0 0 = headC ws from rfl] at hk
 unfold kindsL at hk
 simp only [List.mem_cons,List.not_mem_nil,or_false] at hk
 rcases hk with e | e | e | e | e | e | e | e | e | e | e | e | e <;> rw [e]
 ·
  rw [show formC 114 ws = [110,110,88] from rfl]
  exact rform_l114 b off n c w s0 c0 hn0 hsz (by rw [eh,e]; rfl)
 ·
  rw [show formC 99 ws = [110,110,88] from rfl]
  exact rform_l99 b off n c w s0 c0 hn0 hsz (by rw [eh,e]; rfl)
 ·
  rw [show formC 108 ws = [110,110,88] from rfl]
  exact rform_l108 b off n c w s0 c0 hn0 hsz (by rw [eh,e]; rfl)
 ·
  by_cases h4:n < 4
  ·
   rw [show formC 118 ws = [] by show (if ws.length < 4 then _ else _) = _; rw [if_pos (by omega)]]
   exact rform_s118 b off n c w s0 c0 hn0 h4 hsz (by rw [eh,e]; rfl)
  ·
   have c3:=hcl 3 (by omega)
   have e3:(bs (ws.getD 3 [])).toList = ws.getD 3 []:=by rw [ByteArray.toList_eq,bs_list]
   have:=rform_l118 b off n c w s0 (bs (ws.getD 3 [])) c0 c3 (by omega) hsz (by rw [eh,e]; rfl) hl
   rw [e3] at this
   rw [show formC 118 ws = _ by show (if ws.length < 4 then _ else _) = _; rw [if_neg (by omega),<- hn]]
   exact this
 ·
  by_cases h4:n < 4
  ·
   rw [show formC 105 ws = [] by show (if ws.length < 4 then _ else _) = _; rw [if_pos (by omega)]]
   exact rform_s105 b off n c w s0 c0 hn0 h4 hsz (by rw [eh,e]; rfl)
  ·
   have c3:=hcl 3 (by omega)
   have e3:(bs (ws.getD 3 [])).toList = ws.getD 3 []:=by rw [ByteArray.toList_eq,bs_list]
   have:=rform_l105 b off n c w s0 (bs (ws.getD 3 [])) c0 c3 (by omega) hsz (by rw [eh,e]; rfl) hl
   rw [e3] at this
   rw [show formC 105 ws = _ by show (if ws.length < 4 then _ else _) = _; rw [if_neg (by omega),<- hn]]
   exact this
 ·
  rw [show formC 101 ws = [110,110,110,110,88] from rfl]
  exact rform_l101 b off n c w s0 c0 hn0 hsz (by rw [eh,e]; rfl)
 ·
  rw [show formC 103 ws = [110,110,110,110,88] from rfl]
  exact rform_l103 b off n c w s0 c0 hn0 hsz (by rw [eh,e]; rfl)
 ·
  rw [show formC 102 ws = [110,110,82,88] from rfl]
  exact rform_l102 b off n c w s0 c0 hn0 hsz (by rw [eh,e]; rfl)
 ·
  rw [show formC 104 ws = [110,110,82,88] from rfl]
  exact rform_l104 b off n c w s0 c0 hn0 hsz (by rw [eh,e]; rfl)
 ·
  rw [show formC 116 ws = [110,110,110,110,88] from rfl]
  exact rform_l116 b off n c w s0 c0 hn0 hsz (by rw [eh,e]; rfl)
 ·
  rw [show formC 100 ws = [110,110,82] from rfl]
  exact rform_l100 b off n c w s0 c0 hn0 hsz (by rw [eh,e]; rfl)
 ·
  rw [show formC 115 ws = [110,110,110,110,82] from rfl]
  exact rform_l115 b off n c w s0 c0 hn0 hsz (by rw [eh,e]; rfl)
 ·
  rw [show formC 120 ws = if ws.length - 2 < 1 ∨ 8 < ws.length - 2 then [] else Lib.repeatL [110] (ws.length - 2) ++ [82] from rfl,<- hn]
  exact rform_l120 b off n c w s0 c0 hn0 hsz (by rw [eh,e]; rfl) hl
open Q (hid')
open X (bs OwnS RS strs bs_list bs_size)
theorem wpList_src {P:Program} {w:World} {ops:Array Oper} {rest:List Oper} {o:Oper} {a:Act} {Q:Exit->Act->World->Prop} (hgd:o.guard = none) (s x:Operand) (t:TypeId)
  (ho:o.op = .call { callee:=.builtin .append,args:=#[s,x],argTypes:=#[t,t] })
  (base:Nat) (e:TypeId) (i:TypeInfo) (zv:Value) (size bytes:Nat) (ht:P.underlying t = some (.slice e)) (hi:P.info? e = some i) (hz:i.zero = some zv)
  (hsize:i.size = size) (hby:i.bytes = bytes) (hzs:zv.cells.size = size) (hsz:0 < size)
  (g0:Nat) (hs:a.eval s = .slice (some ⟨g0,0,none⟩) 0 0) (hown:w.ownsRow base e size (.slice (some ⟨g0,0,none⟩) 0 0) 0 [])
  (ao:Option Addr) (m c:Nat) (news:List Value) (hx:a.eval x = .slice ao m c) (hl:news.length = m * size) (hnews:0 < m->∃ ad,ao = some ad/\∀ j u,news[j]? = some u->w.cell? (ad.add j) = some u) (h1:∀ u ∈ news,u.oneCell' = true)
  (h63:m<=maxLen) (hbytes:m * bytes<=140737488355328) (hbase:base<=w.heap.size)
  (h:∀ g cap w',w'.ownsRow base e size (.slice (some ⟨g,0,none⟩) m cap) m news->w.grownBy w' (some g0)->wpList P ops Q rest (a.put o.dst (.slice (some ⟨g,0,none⟩) m cap)) w'):wpList P ops Q (o :: rest) a w:=by
 by_cases hm:0 < m
 ·
  obtain ⟨ad,rfl,hn⟩:=hnews hm
  exact wpList_append_lies w hgd s x t ho base e i zv size bytes ht hi hz hsize hby hzs hsz _ 0 [] hs hown ad m c news hx hl hn h1 hm (by omega) (by rw [Nat.zero_add]; exact hbytes) hbase _ rfl (fun g cap w' h2 h3 _ _ => by
   have:=h g cap w' (by simpa using h2) h3
   rw [Nat.zero_add]
   exact this)
 ·
  obtain rfl:m = 0:=by omega
  have hn0:news = []:=List.eq_nil_of_length_eq_zero (by simpa using hl)
  subst hn0
  have hr:(Builtin.append_ #[t,t] o.type #[.slice (some ⟨g0,0,none⟩) 0 0,.slice ao 0 c]).run P w = .ok (.slice (some ⟨g0,0,none⟩) 0 0) w:=by
   cases ao <;> simp [Builtin.append_,run_underlying ht,sizeOf,typeInfo,hi,Builtin.lenOf,Builtin.firstCells,loadCells,loadCellsFrom,storeCells]
  refine wpList_plain hgd fun K hK => ?_
  unfold Oper.wp execOp
  simp only [ho,resolve,invoke,builtin,Sem.run_bind,Sem.run_pure,Result.andThen_ok,List.map_toArray,List.map_cons,List.map_nil,hs,hx,hr]
  exact hK _ _ (h g0 0 w hown ⟨rfl,rfl,rfl,Nat.le_refl _,fun _ _ _ => rfl⟩)
theorem own_none (t:TypeId) (sz:Nat) (w:World) (B:Nat) (hB:B<=w.heap.size):(w.alloc (Obj.cells #[] t)).ownsRow B t sz (.slice (some ⟨w.heap.size,0,none⟩) 0 0) 0 []:=by
 refine ⟨by simp,.inr ⟨w.heap.size,0,#[],rfl,hB,?_,Nat.le_refl _,by unfold maxLen; omega,by simp,by simp⟩⟩
 show (w.heap.push _)[w.heap.size]? = _
 simp
theorem own_cap' {B:Nat} {w:World} {g n cap:Nat} {ws:List (List UInt8)} (h:OwnS B w (.slice (some ⟨g,0,none⟩) n cap) ws):ws.length<=cap/\cap<=9223372036854775807:=by
 obtain ⟨_,⟨h2,_⟩ | ⟨_,_,_,h2,_,_,hn,hm,_⟩⟩:=h
 ·
  cases h2
 ·
  simp only [Value.slice.injEq] at h2
  obtain ⟨_,_,rfl⟩:=h2
  exact ⟨hn,hm⟩
def LentW (B:Nat) (w:World) (v:Value) (ws:List (List UInt8)):Prop:=∃ g cap,v = .slice (some ⟨g,0,none⟩) ws.length cap/\OwnS B w (.slice (some ⟨g,0,none⟩) (ws.length + 1) cap) (ws ++ [[33]])
theorem strs_src {w:World} {ao:Option Addr} {n c:Nat} {ws:List (List UInt8)} (h:RS w (.slice ao n c) ws):0 < n->∃ ad,ao = some ad/\∀ j u,(strs ws)[j]? = some u->w.cell? (ad.add j) = some u:=by
 intro h0
 obtain ⟨ao',c',hv,hx⟩:=h
 simp only [Value.slice.injEq] at hv
 obtain ⟨rfl,rfl,rfl⟩:=hv
 obtain ⟨b,off,rfl,hb,hc⟩:=hx h0
 refine ⟨⟨b,off,none⟩,rfl,fun j u hj => ?_⟩
 have hl:j < ws.length:=by
  have:=(List.getElem?_eq_some_iff.1 hj).1
  rw [X.strs_len] at this
  omega
 rw [X.strs_at ws j hl] at hj
 have e:(⟨b,off,none⟩:Addr).add j = ⟨b,off + j,none⟩:=by
  unfold Addr.add
  by_cases hj0:j = 0 <;> simp [hj0]
 rw [e,hc j hl]
 exact hj
set_option maxRecDepth 100000 in
set_option maxHeartbeats 4000000 in
theorem lent7_any (ao:Option Addr) (n c:Nat) (ws:List (List UInt8)) (w:World) (h:RS w (.slice ao n c) ws) (hl:(n + 200) * 16<=140737488355328) :
  Calls Tryz.prog 5 #[.slice ao n c] w fun e w' => Kept w w'/\∃ v,e = .returned v/\LentW w.heap.size w' v ws:=by
 have hn:n = ws.length:=rs_len h
 obtain ⟨i0,hi,hz0,hz1,hz2⟩:=info_parts X.info_str
 have HN:=hid' hn
 have HR:=hid' h
 have hmx:n + 1<=9223372036854775807:=by omega
 clear hn h
 go_enter Tryz.func5,Tryz.ntmps5
 have HO:=hid' (own_none 9 1 w w.heap.size (Nat.le_refl _))
 have HK:=hid' ((Kept.refl w).alloc (Obj.cells #[] 9))
 go_wp2_with (at_builtin; refine wpList_src rfl (.tmp 3) (.tmp 4) 22 rfl w.heap.size 9 i0 (.string ByteArray.empty) 1 16 X.und_strs hi hz0 hz1 hz2 rfl (by decide) w.heap.size rfl HO.out ao n c (strs ws) rfl (by rw [X.strs_len,HN.out]) (strs_src (HR.out.kept HK.out)) (X.strs_one ws) (by unfold maxLen; omega) (by omega) (by simp) ?_)
 intro g cap w1 own1 hg1
 have HK1:=hid' (show Kept w w1 from Below.grown (B:=w.heap.size) HK.out hg1 HK.out.size (fun k hk => by simp at hk; omega))
 clear hg1
 have Hm:=X.cell_new w1 (.string ⟨#[33]⟩) 9
 have KA:=(Kept.refl w1).alloc (.cells #[.string ⟨#[33]⟩] 9)
 have own2:=own_kept own1 (fun b hb => KA.block b (own1.lt b hb).2)
 go_wp2_with (at_builtin; refine wpList_append_lies _ rfl (.tmp 5) (.tmp 6) 22 rfl w.heap.size 9 i0 (.string ByteArray.empty) 1 16 X.und_strs hi hz0 hz1 hz2 rfl (by decide) (.slice (some ⟨g,0,none⟩) n cap) n (strs ws) rfl own2 ⟨w1.heap.size,0,none⟩ 1 1 [.string ⟨#[33]⟩] rfl rfl Hm (fun u hu => by simp at hu; subst hu; rfl) (by omega) (by unfold maxLen; omega) (by omega) (by have:=HK1.out.size; simp; omega) _ rfl ?_)
 intro g4 cap4 W4 own4 hg4 _ _
 have HB:=hid' (And.intro own4 (show Kept w W4 from Below.grown (B:=w.heap.size) (HK1.out.trans KA) hg4 (Nat.le_trans HK1.out.size KA.size) (fun k hk => (own2.lt k hk).1)))
 have hc4:n + 1<=cap4:=by
  obtain ⟨_,⟨h1,_⟩ | ⟨_,_,_,h1,_,_,h2,_⟩⟩:=own4
  ·
   cases h1
  ·
   simp only [Value.slice.injEq] at h1; omega
 have hc5:cap4<=9223372036854775807:=by
  obtain ⟨_,⟨h1,_⟩ | ⟨_,_,_,h1,_,_,_,h2,_⟩⟩:=own4
  ·
   cases h1
  ·
   simp only [Value.slice.injEq] at h1; unfold maxLen at h2; omega
 clear own4 hg4 own1 own2 Hm KA
 go_wp2_with fail
 go_ret
 refine ⟨HB.out.2,_,rfl,g4,cap4,by rw [<- HN.out]; rfl,?_⟩
 have:=HB.out.1
 unfold OwnS
 rw [List.length_append,List.length_singleton,<- HN.out,X.strs_app]
 exact this
theorem LentW.rs {B:Nat} {w:World} {v:Value} {ws:List (List UInt8)} (h:LentW B w v ws):RS w v ws:=by
 obtain ⟨g,cap,rfl,h⟩:=h
 obtain ⟨g',cap',e,_,hg,_,hc,_⟩:=h.read (by simp)
 simp only [Value.slice.injEq,Option.some.injEq,Addr.mk.injEq] at e
 obtain ⟨⟨rfl,_⟩,_,rfl⟩:=e
 refine ⟨_,_,rfl,fun h0 => ⟨g,0,rfl,hg,fun j hj => ?_⟩⟩
 rw [Nat.zero_add,hc j (by rw [List.length_append]; omega)]
 congr 3
 rw [List.getD_eq_getElem?_getD,List.getD_eq_getElem?_getD,List.getElem?_append_left hj]
theorem LentW.kept {B:Nat} {w w':World} {v:Value} {ws:List (List UInt8)} (h:LentW B w v ws) (k:Kept w w'):LentW B w' v ws:=by
 obtain ⟨g,cap,rfl,h⟩:=h
 exact ⟨g,cap,rfl,h.kept k⟩
set_option maxRecDepth 100000 in
set_option maxHeartbeats 4000000 in
theorem whole7_any (B:Nat) (v:Value) (ao:Option Addr) (n c:Nat) (ws:List (List UInt8)) (w:World) (hv:LentW B w v ws) (h:RS w (.slice ao n c) ws) (hl:n<=1000000000000000000) :
  Calls Tryz.prog 9 #[v,.slice ao n c] w fun e w' => Kept w w'/\e = .returned (.bool true):=by
 have hn:n = ws.length:=rs_len h
 have htx:=X.texts_any v (.slice ao n c) ws ws w hv.rs h (by omega)
 rw [decide_eq_true rfl] at htx
 obtain ⟨g,cap,rfl,ho⟩:=hv
 have hc:=own_cap' ho
 have HO:=hid' ho
 rw [<- hn] at htx ⊢
 have HN:=hid' hn
 rw [List.length_append,List.length_singleton,<- hn] at hc
 clear h hn ho
 go_enter Tryz.func9,Tryz.ntmps9
 go_wp2_with fail
 refine htx.mono ?_
 rintro e w1 ⟨hk,rfl⟩
 have q:=(HO.out.kept hk).read (by simp)
 obtain ⟨g',cap',e,_,hg,_,hcell,_⟩:=q
 simp only [Value.slice.injEq,Option.some.injEq,Addr.mk.injEq] at e
 obtain ⟨⟨rfl,_⟩,_,rfl⟩:=e
 have q:=hcell n (by rw [List.length_append,HN.out]; simp)
 have hq:(ws ++ [[33]]).getD n [] = ([33]:List UInt8):=by rw [List.getD_eq_getElem?_getD,List.getElem?_append_right (by rw [HN.out]; exact Nat.le_refl _),HN.out,Nat.sub_self]; rfl
 rw [hq] at q
 have e33:(bs [33]).toList = [33]:=by rw [ByteArray.toList_eq,bs_list]
 have e33':((bs [33]).toList == [33]) = true:=by rw [e33]; rfl
 generalize bs [33] = t33 at q e33 e33'
 clear hq
 have HK:=hid' hk
 have h1:n + 1<=cap:=hc.1
 have h2:cap<=9223372036854775807:=hc.2
 clear hk hcell hg hc htx
 go_wp2_with fail
 go_ret
 exact ⟨HK.out,rfl⟩
open Q (hid' parseOf Lett ErrV Tab okN textOf)
open X (bs OwnS RS strs bs_list bs_size)
set_option maxRecDepth 100000 in
set_option maxHeartbeats 8000000 in
theorem same7_any (a1 a2 a3 b1 b2 b3:Option Addr) (n1 k1 n2 k2 n3 k3 l1 l2 l3:Nat) (c:Cd) (w:World) (hc:CdR w a1 n1 k1 a2 n2 k2 a3 n3 k3 c) (hd:CdR w b1 n1 l1 b2 n2 l2 b3 n3 l3 c) (h1:n1<=1000000) (h2:n2<=9223372036854775807) (h3:n3<=9223372036854775807) :
  Calls Tryz.prog 8 #[cdV c (.slice a1 n1 k1) (.slice a2 n2 k2) (.slice a3 n3 k3),cdV c (.slice b1 n1 l1) (.slice b2 n2 l2) (.slice b3 n3 l3)] w fun e w' => Kept w w'/\e = .returned (.bool true):=by
 obtain ⟨cn,cnd,cr,⟨cm,cx⟩,ckd,cvs,css⟩:=c
 unfold cdV
 simp only
 have HC:=hid' (And.intro hc hd)
 have HLN:=hid' (show cnd.length<=1000000000000000000 by have h:n1 = cnd.length:=rs_len hc.nodes; omega)
 generalize bs cn = s1
 generalize bs cr = s3
 clear hc hd
 go_enter Tryz.func8,Tryz.ntmps8
 go_upto_region 1 with fail
 have hK:=((Kept.refl w).alloc (.cells #[.string s1,.slice a1 n1 k1,.string s3,.int .i64 cm,.int .i64 cx,.int .i64 ckd,.slice a2 n2 k2,.slice a3 n3 k3] 32)).alloc (.cells #[.string s1,.slice b1 n1 l1,.string s3,.int .i64 cm,.int .i64 cx,.int .i64 ckd,.slice b2 n2 l2,.slice b3 n3 l3] 32)
 have hA:=(RowL.alloc 32 w [.string s1,.slice a1 n1 k1,.string s3,.int .i64 cm,.int .i64 cx,.int .i64 ckd,.slice a2 n2 k2,.slice a3 n3 k3]).kept ((Kept.refl _).alloc (.cells #[.string s1,.slice b1 n1 l1,.string s3,.int .i64 cm,.int .i64 cx,.int .i64 ckd,.slice b2 n2 l2,.slice b3 n3 l3] 32))
 have hB:=RowL.alloc 32 (w.alloc (.cells #[.string s1,.slice a1 n1 k1,.string s3,.int .i64 cm,.int .i64 cx,.int .i64 ckd,.slice a2 n2 k2,.slice a3 n3 k3] 32)) [.string s1,.slice b1 n1 l1,.string s3,.int .i64 cm,.int .i64 cx,.int .i64 ckd,.slice b2 n2 l2,.slice b3 n3 l3]
 rw [World.size_alloc] at hB
 generalize (w.alloc (.cells #[.string s1,.slice a1 n1 k1,.string s3,.int .i64 cm,.int .i64 cx,.int .i64 ckd,.slice a2 n2 k2,.slice a3 n3 k3] 32)).alloc (.cells #[.string s1,.slice b1 n1 l1,.string s3,.int .i64 cm,.int .i64 cx,.int .i64 ckd,.slice b2 n2 l2,.slice b3 n3 l3] 32) = W0 at hK hA hB ⊢
 obtain ⟨q,hq⟩:∃ q,q = w.heap.size + 1:=⟨_,rfl⟩
 rw [<- hq] at hB ⊢
 obtain ⟨p,hp⟩:∃ q,q = w.heap.size:=⟨_,rfl⟩
 rw [<- hp] at hA ⊢
 have HW:=hid' (And.intro hK (And.intro hA hB))
 clear hK hA hB hq hp
 have f0:=HW.out.2.1.cell 0 (.string s1)
 have f1:=HW.out.2.1.cell 1 (.slice a1 n1 k1)
 have f2:=HW.out.2.1.cell 2 (.string s3)
 have f3:=HW.out.2.1.cell 3 (.int .i64 cm)
 have f4:=HW.out.2.1.cell 4 (.int .i64 cx)
 have f5:=HW.out.2.1.cell 5 (.int .i64 ckd)
 have f6:=HW.out.2.1.cell 6 (.slice a2 n2 k2)
 have f7:=HW.out.2.1.cell 7 (.slice a3 n3 k3)
 have g0:=HW.out.2.2.cell 0 (.string s1)
 have g1:=HW.out.2.2.cell 1 (.slice b1 n1 l1)
 have g2:=HW.out.2.2.cell 2 (.string s3)
 have g3:=HW.out.2.2.cell 3 (.int .i64 cm)
 have g4:=HW.out.2.2.cell 4 (.int .i64 cx)
 have g5:=HW.out.2.2.cell 5 (.int .i64 ckd)
 have g6:=HW.out.2.2.cell 6 (.slice b2 n2 l2)
 have g7:=HW.out.2.2.cell 7 (.slice b3 n3 l3)
 go_wp2_with fail
 refine (X.texts_any _ _ cnd cnd _ (HC.out.1.nodes.kept HW.out.1) (HC.out.2.nodes.kept HW.out.1) HLN.out).mono ?_
 rintro e w1 ⟨hk,rfl⟩
 rw [decide_eq_true (rfl:cnd = cnd)]
 have HW:=hid' (And.intro (HW.out.1.trans hk) (And.intro (HW.out.2.1.kept hk) (HW.out.2.2.kept hk)))
 clear f0 f1 f2 f3 f4 f5 f6 f7 g0 g1 g2 g3 g4 g5 g6 g7 hk
 have f0:=HW.out.2.1.cell 0 (.string s1)
 have f1:=HW.out.2.1.cell 1 (.slice a1 n1 k1)
 have f2:=HW.out.2.1.cell 2 (.string s3)
 have f3:=HW.out.2.1.cell 3 (.int .i64 cm)
 have f4:=HW.out.2.1.cell 4 (.int .i64 cx)
 have f5:=HW.out.2.1.cell 5 (.int .i64 ckd)
 have f6:=HW.out.2.1.cell 6 (.slice a2 n2 k2)
 have f7:=HW.out.2.1.cell 7 (.slice a3 n3 k3)
 have g0:=HW.out.2.2.cell 0 (.string s1)
 have g1:=HW.out.2.2.cell 1 (.slice b1 n1 l1)
 have g2:=HW.out.2.2.cell 2 (.string s3)
 have g3:=HW.out.2.2.cell 3 (.int .i64 cm)
 have g4:=HW.out.2.2.cell 4 (.int .i64 cx)
 have g5:=HW.out.2.2.cell 5 (.int .i64 ckd)
 have g6:=HW.out.2.2.cell 6 (.slice b2 n2 l2)
 have g7:=HW.out.2.2.cell 7 (.slice b3 n3 l3)
 go_wp2_with fail
 refine (same4_any ckd a2 a3 b2 b3 n2 k2 n3 k3 l2 l3 cvs css _ (HC.out.1.vals.kept HW.out.1) (HC.out.1.steps.kept HW.out.1) (HC.out.2.vals.kept HW.out.1) (HC.out.2.steps.kept HW.out.1) h2 h3).mono ?_
 rintro e w2 ⟨hk,rfl⟩
 have HK:=hid' (HW.out.1.trans hk)
 clear hk f0 f1 f2 f3 f4 f5 f6 f7 g0 g1 g2 g3 g4 g5 g6 g7
 go_wp2_with fail
 go_ret
 exact ⟨HK.out,rfl⟩
open Q (hid' parseOf Lett ErrV Tab okN textOf)
open X (bs OwnS RS strs bs_list bs_size)
theorem rs_lit (w:World) (ws:List (List UInt8)) (n:Nat) (hn:n = ws.length):RS (w.alloc (.cells (strs ws).toArray 9)) (.slice (some ⟨w.heap.size,0,none⟩) n n) ws:=by
 subst hn
 refine ⟨_,_,rfl,fun _ => ⟨w.heap.size,0,rfl,by simp,fun j hj => ?_⟩⟩
 have hr:=World.rowIs_alloc w (strs ws).toArray 9 (fun i => .string (bs (ws.getD i []))) (fun i hi => by
  have hi':i < ws.length:=by simpa [strs] using hi
  have:=X.strs_at ws i hi'
  simpa using this)
 rw [Nat.zero_add]
 exact hr.cell (by simpa [strs] using hj)
def awW:List (List UInt8):=[[114,49],[97],[48],[52,46,55,107]]
def awC:Cd:=⟨[114,49],[[97],[48]],[],(47,2),0,[],[]⟩
def awT:List (List UInt8):=[[114,49],[97],[48],[52,55,48,48]]
def awM:List (List UInt8):=[[46,109,111,100,101,108],[100,49],[100],[49,117],[48,46,55],[49,48,48,109]]
def awD:Md:=⟨[100,49],100,[(1,-6),(1,-1)],[(7,-1)]⟩
theorem aw1:readC awW = .ok awC:=by kernel_rfl
theorem aw2:writeC awC = some awT:=by kernel_rfl
theorem aw3:readM awM = .ok awD:=by kernel_rfl
theorem aw4:cwords awC = awT:=by kernel_rfl
set_option maxRecDepth 100000 in
set_option maxHeartbeats 8000000 in
theorem awake7_any (w:World) (hL:Lett w) (hE:ErrV w) (hT:Tab w):Calls Tryz.prog 4 #[] w fun e w' => Kept w w'/\e = .returned (.bool true):=by
 have HG:=hid' (And.intro hL (And.intro hE hT))
 clear hL hE hT
 go_enter Tryz.func4,Tryz.ntmps4
 go_wp2_with fail
 have hk0:=(Kept.refl w).alloc (.cells (strs awW).toArray 9)
 have hrs:=rs_lit w awW 4 rfl
 have hrd:=readC_any (some ⟨w.heap.size,0,none⟩) 4 4 awW _ (HG.out.1.kept hk0) (HG.out.2.1.kept hk0) hrs (Nat.le_refl _) (by omega) (by decide)
 rw [aw1] at hrd
 refine hrd.mono ?_
 rintro e w1 ⟨hk1,hres⟩
 obtain ⟨v,rfl,nv,xv,sv,rfl,o1,o2,o3⟩:=hres
 have HK:=hid' (hk0.trans hk1)
 clear hk0 hk1 hrs hrd
 obtain ⟨b1,l1,rfl⟩:=own_shape o1
 obtain ⟨b2,l2,rfl⟩:=own_shape o2
 obtain ⟨b3,l3,rfl⟩:=own_shape o3
 have HO:=hid' (show CdR w1 b1 2 l1 b2 0 l2 b3 0 l3 awC from ⟨X.OwnS.rs o1,OwnN.nsl o2,OwnI.isl o3⟩)
 clear o1 o2 o3
 have e1:cdV awC (.slice b1 awC.nodes.length l1) (.slice b2 awC.vals.length l2) (.slice b3 awC.steps.length l3) = .agg #[.string ⟨#[114,49]⟩,.slice b1 2 l1,.string ⟨#[]⟩,.int .i64 47,.int .i64 2,.int .i64 0,.slice b2 0 l2,.slice b3 0 l3]:=rfl
 rw [e1]
 clear e1
 go_wp2_with fail
 have hk2:=(Kept.refl w1).alloc (.cells #[.string ⟨#[114,49]⟩,.slice b1 2 l1,.string ⟨#[]⟩,.int .i64 47,.int .i64 2,.int .i64 0,.slice b2 0 l2,.slice b3 0 l3] 32)
 have hC:=RowL.alloc 32 w1 [.string ⟨#[114,49]⟩,.slice b1 2 l1,.string ⟨#[]⟩,.int .i64 47,.int .i64 2,.int .i64 0,.slice b2 0 l2,.slice b3 0 l3]
 have hwr:=write_plain b1 b2 b3 2 l1 0 l2 0 l3 awC _ (HG.out.1.kept (HK.out.trans hk2)) (HG.out.2.1.kept (HK.out.trans hk2)) (HG.out.2.2.kept (HK.out.trans hk2)) (HO.out.kept hk2) (by omega) (by decide) (by rw [aw4]; decide) (by decide)
 rw [aw2] at hwr
 have e2:cdV awC (.slice b1 2 l1) (.slice b2 0 l2) (.slice b3 0 l3) = .agg #[.string ⟨#[114,49]⟩,.slice b1 2 l1,.string ⟨#[]⟩,.int .i64 47,.int .i64 2,.int .i64 0,.slice b2 0 l2,.slice b3 0 l3]:=rfl
 rw [e2] at hwr
 generalize w1.alloc (.cells #[.string ⟨#[114,49]⟩,.slice b1 2 l1,.string ⟨#[]⟩,.int .i64 47,.int .i64 2,.int .i64 0,.slice b2 0 l2,.slice b3 0 l3] 32) = W1 at hk2 hC hwr ⊢
 obtain ⟨p,hp⟩:∃ q,q = w1.heap.size:=⟨_,rfl⟩
 rw [<- hp] at hC ⊢
 refine hwr.mono ?_
 rintro e w2 ⟨hk3,u,rfl,ou⟩
 obtain ⟨ao,cap,rfl,_,_⟩:=own_cap ou
 have HW:=hid' (And.intro (HK.out.trans (hk2.trans hk3)) (And.intro (hC.kept hk3) (X.OwnS.rs ou)))
 clear hk2 hC hwr hk3 ou e2 hp HK
 go_wp2_with fail
 have hk0:=(Kept.refl w2).alloc (.cells (strs awM).toArray 9)
 have hrs:=rs_lit w2 awM 6 rfl
 have hrm:=readM_any (some ⟨w2.heap.size,0,none⟩) 6 6 awM _ (HG.out.1.kept (HW.out.1.trans hk0)) (HG.out.2.1.kept (HW.out.1.trans hk0)) hrs (by omega) (by decide)
 rw [aw3] at hrm
 refine hrm.mono ?_
 rintro e w3 ⟨hk4,v,rfl,gv,vv,rfl,o1,o2⟩
 obtain ⟨b4,l4,rfl⟩:=own_shape o1
 obtain ⟨b5,l5,rfl⟩:=own_shape o2
 have e3:(Value.agg #[.string (bs awD.name),.int .u8 awD.kind,.slice b4 awD.gs.length l4,.slice b5 awD.vs.length l5]) = .agg #[.string ⟨#[100,49]⟩,.int .u8 100,.slice b4 2 l4,.slice b5 1 l5]:=rfl
 rw [e3]
 have HW:=hid' (And.intro (HW.out.1.trans (hk0.trans hk4)) (And.intro (HW.out.2.1.kept (hk0.trans hk4)) (HW.out.2.2.kept (hk0.trans hk4))))
 have kM:=(Kept.refl w3).alloc (.cells #[.string ⟨#[100,49]⟩,.int .u8 100,.slice b4 2 l4,.slice b5 1 l5] 45)
 have hCm:=HW.out.2.1.kept kM
 have c3:=hCm.cell 3 (.int .i64 47)
 have c4:=hCm.cell 4 (.int .i64 2)
 clear hk0 hrs hrm hk4 o1 o2 e3 hCm
 go_wp2_with fail
 have hM:=Row4.alloc 45 w3 (.string ⟨#[100,49]⟩) (.int .u8 100) (.slice b4 2 l4) (.slice b5 1 l5)
 have hsz:(w3.alloc (.cells #[.string ⟨#[100,49]⟩,.int .u8 100,.slice b4 2 l4,.slice b5 1 l5] 45)).heap.size = w3.heap.size + 1:=by rw [World.size_alloc]
 generalize w3.alloc (.cells #[.string ⟨#[100,49]⟩,.int .u8 100,.slice b4 2 l4,.slice b5 1 l5] 45) = W4 at kM hM c3 c4 hsz ⊢
 rw [<- hsz]
 obtain ⟨mb,hmb⟩:∃ q,q = w3.heap.size:=⟨_,rfl⟩
 rw [<- hmb] at hM ⊢
 have hk5:=(Kept.refl W4).alloc (.cells (strs awT).toArray 9)
 have hrs:=rs_lit W4 awT 4 rfl
 have htx:=X.texts_any _ _ awT awT _ (HW.out.2.2.kept (kM.trans hk5)) hrs (by decide)
 rw [decide_eq_true (rfl:awT = awT)] at htx
 refine htx.mono ?_
 rintro e w4 ⟨hk6,rfl⟩
 have hM4:=hM.kept (hk5.trans hk6)
 have m1:=hM4.c1
 have m2:=hM4.c2
 have HK:=hid' (HW.out.1.trans (kM.trans (hk5.trans hk6)))
 clear kM hM hsz hmb hk5 hrs htx hk6 hM4 c3 c4
 go_wp2_with fail
 go_ret
 exact ⟨HK.out,rfl⟩
end V
end Go.Proofs.YtihnknnddldgiaaGreatDoor

/- Lemmas. -/
import Derived.Test.YthfbfbfambbkaaaGreatDoorTk
import Derived.Test.YthfbfbfambbkaaaGreatDoorGag
import Derived.Deep.AppendLies
import Derived.Test.YthfbfbfambbkaaaGreatDoorGad
namespace Go.Proofs.YthfbfbfambbkaaaGreatDoor
open Go.RowKit
namespace D
theorem unpack_step {l o:List Nat} {i x:Nat} (hi:o.length = 2 * i) (hx:x = l.getD i 0) (h:D.val o = M.val (l.take i)):D.val (o ++ [x % 65536,x / 65536]) = M.val (l.take (i + 1)):=by
 rw [show o ++ [x % 65536,x / 65536] = (o ++ [x % 65536]) ++ [x / 65536] by simp,D.val_snoc,D.val_snoc,h,M.take_succ_getD,<- hx,List.length_append,List.length_singleton,hi,Nat.pow_succ,show 65536 ^ (2 * i) = 4294967296 ^ i by rw [Nat.pow_mul],Nat.mul_assoc,Nat.add_assoc,<- Nat.mul_add]
 congr 2
 omega
theorem sl_at {w:World} {ao:Option Addr} {n cap:Nat} {l:List Nat} (h:Go.Proofs.YthfbfbfambbkaaaGreatDoor.Sl w (.slice ao n cap) l) {k:Nat} (hk:k < l.length):∃ b off,ao = some ⟨b,off,none⟩/\l.length<=cap/\b < w.heap.size/\w.cell? ⟨b,off + k,none⟩ = some (.int .u32 ((l.getD k 0:Nat):Int)):=by
 obtain ⟨_,ao',cap',he,hx⟩:=h
 simp only [Value.slice.injEq] at he
 obtain ⟨rfl,_,rfl⟩:=he
 obtain ⟨h1,b,off,rfl,h2,hc⟩:=hx (by omega)
 exact ⟨b,off,rfl,h1,h2,hc k hk⟩
theorem own_shape' {w:World} {B:Nat} {t:TypeId} {s:Nat} {v:Value} {n:Nat} {xs:List Value} (h:w.ownsRow B t s v n xs):∃ ao cap,v = .slice ao n cap:=by
 obtain ⟨_,⟨rfl,rfl⟩ | ⟨b,N,cur,rfl,_⟩⟩:=h
 ·
  exact ⟨_,_,rfl⟩
 ·
  exact ⟨_,_,rfl⟩
theorem cells_two (w:World) (x y:Value) (t:TypeId) (b:Nat) (hb:w.heap.size = b):∀ j u,([x,y]:List Value)[j]? = some u->(w.alloc (.cells #[x,y] t)).cell? ((⟨b,0,none⟩:Addr).add j) = some u:=by
 subst hb
 intro j u hu
 match j,hu with
 | 0,hu => simp at hu; subst hu; exact World.cell?_alloc_at _ _ _ _ (by simp)
 | 1,hu => simp at hu; subst hu; exact World.cell?_alloc_at _ _ _ _ (by simp)
set_option maxRecDepth 100000 in
set_option maxHeartbeats 4000000 in
theorem Take_any (m:Bool) (ao:Option Addr) (n cap:Nat) (l:List Nat) (w:World) (h:Go.Proofs.YthfbfbfambbkaaaGreatDoor.Sl w (.slice ao n cap) l) (hl:l.length<=80) :
  Calls Tryz.prog 52 #[.agg #[.bool m,.slice ao n cap]] w fun e w' => Kept w w'/\∃ s ao' k cap',e = .returned (.agg #[.bool s,.slice ao' k cap'])/\NIs w' s (.slice ao' k cap') (M.int m l)/\k<=2 * l.length:=by
 have hn:=Go.Proofs.YthfbfbfambbkaaaGreatDoor.Sl.len h
 subst hn
 have HA:Hid (Go.Proofs.YthfbfbfambbkaaaGreatDoor.Sl w (.slice ao l.length cap) l):=h
 have bdl:=h.bd
 obtain ⟨i0,hi,hz0,hz1,hz2⟩:=info_parts infoI
 clear h
 go_enter Tryz.func52,Tryz.ntmps52
 go_wp2
 go_loopw [3,4] (fun vd vi wr => ∃ (i:Nat) (o:List Nat),vi = .int .i64 (i:Int)/\i<=l.length/\Hid (o.length = 2 * i/\D.Bd o/\D.val o = M.val (l.take i))/\Hid (wr.ownsRow (w.heap.size + 1 + 1) 3 1 vd o.length (us o))/\Hid (Kept ((w.alloc (Obj.cells #[.bool m,.slice ao l.length cap] 27)).alloc (Obj.cells #[.bool false,.slice none 0 0] 71)) wr)) (fun _ vi _ => l.length - (intOf vi).toNat)
 case atStart => exact ⟨0,[],rfl,by omega,⟨rfl,D.Bd_nil,rfl⟩,World.ownsRow_nil _ _ _ _,Kept.refl _⟩
 case round =>
  obtain ⟨i,o,rfl,hil,ho,hown,hkept⟩:=hrel
  obtain ⟨hA0,hA1,hR0,hR1⟩:=box_kept2 hkept.out
  by_cases hlt:i < l.length
  ·
   obtain ⟨b,off,rfl,hcap,hlb,hc0⟩:=sl_at HA.out hlt
   have hc:=cell_kept ((((Kept.refl w).alloc _).alloc _).trans hkept.out) hc0
   have hxb:=bdl.getD i
   obtain ⟨x,hx⟩:∃ x,x = l.getD i 0:=⟨_,rfl⟩
   clear hc0
   rw [<- hx] at hc hxb
   have HX:Hid (x = l.getD i 0):=hx
   have hix:(i:Int) < (l.length:Int):=by omega
   have hix0:(0:Int)<=(i:Int):=by omega
   have hszr:w.heap.size + 1 + 1<=wr.heap.size:=by have:=hkept.out.size; simpa using this
   have hml:o.length + 2<=maxLen:=by rw [ho.out.1]; unfold maxLen; omega
   have hol:o.length<=1000:=by rw [ho.out.1]; omega
   have e1:IntKind.i64.wrap ((x:Int).tmod 65536) = ((x % 65536:Nat):Int):=by rw [Int.tmod_eq_emod_of_nonneg (by omega),IntKind.wrap_i64]; omega
   have e2:IntKind.i64.wrap (IntKind.u32.wrap ((x:Int) / 65536)) = ((x / 65536:Nat):Int):=by rw [IntKind.wrap_u32,IntKind.wrap_i64]; omega
   have E:Hid (IntKind.i64.wrap ((x:Int).tmod 65536) = ((x % 65536:Nat):Int)/\IntKind.i64.wrap (IntKind.u32.wrap ((x:Int) / 65536)) = ((x / 65536:Nat):Int)):=⟨e1,e2⟩
   obtain ⟨lo,hlo⟩:∃ lo,lo = x % 65536:=⟨_,rfl⟩
   obtain ⟨hj,hhj⟩:∃ hj,hj = x / 65536:=⟨_,rfl⟩
   have HLO:Hid (lo = x % 65536/\hj = x / 65536):=⟨hlo,hhj⟩
   clear hx e1 e2 hlo hhj
   go_wp2_with fail
   refine wp_region_held_drew (S:=fun w' => w'.cell? ⟨w.heap.size,1,none⟩ = some (.slice (some ⟨b,off,none⟩) l.length cap)/\w'.cell? ⟨b,off + i,none⟩ = some (.int .u32 (x:Int))) (by kernel_rfl) ⟨hA1,hc⟩ (fun hHeld => ?_)
   refine wk 0 hHeld ?_
   refine wk 1 hHeld ?_
   refine wk 2 hHeld ?_
   refine wk 3 hHeld ?_
   refine wk 4 hHeld ?_
   refine wk 5 hHeld ?_
   refine wk 6 hHeld ?_
   refine wk 7 hHeld ?_
   refine wk 8 hHeld ?_
   refine wk 9 hHeld ?_
   refine wk 10 hHeld ?_
   refine wk 11 hHeld ?_
   refine wk 12 hHeld ?_
   refine wk 13 hHeld ?_
   refine wk 14 hHeld ?_
   refine rdy 15 fun K hK => ?_
   go_simp
   simp only [E.out.1,E.out.2,<- HLO.out.1,<- HLO.out.2]
   refine hK.out _ _ ⟨cell_kept ((Kept.refl wr).alloc _) hA1,cell_kept ((Kept.refl wr).alloc _) hc⟩ (fun hHeld => ?_)
   clear hK K
   refine wpAnyH_ready (rs:=[16]) (by kernel_rfl) (by simp) ?_
   refine AllReadyH.cons rfl (fun K hK => ?_) AllReadyH.nil
   refine step_append_lies _ rfl (.tmp 12) (.tmp 27) 69 rfl (w.heap.size + 1 + 1) 3 i0 (.int .i64 0) 1 8 Tryz.underlying69 hi hz0 hz1 hz2 rfl (by decide) u3 o.length (us o) rfl (hown.out.alloc _ |>.drew) ⟨wr.heap.size,0,none⟩ 2 2 [.int .i64 (lo:Int),.int .i64 (hj:Int)] rfl rfl (cells_two wr _ _ _ _ rfl) (fun u hu => by simp at hu; rcases hu with rfl | rfl <;> rfl) (by omega) (by omega) (by omega) (by have:=hkept.out.size; simp at this; simp; omega) _ rfl ?_
   intro g2 cap2 w3 hown3 hgrow3 _ _
   have hB3:Kept ((w.alloc (Obj.cells #[.bool m,.slice (some ⟨b,off,none⟩) l.length cap] 27)).alloc (Obj.cells #[.bool false,.slice none 0 0] 71)) w3:=by
    have h1:Below (w.heap.size + 1 + 1) ((w.alloc (Obj.cells #[.bool m,.slice (some ⟨b,off,none⟩) l.length cap] 27)).alloc (Obj.cells #[.bool false,.slice none 0 0] 71)) (wr.alloc (Obj.cells #[.int .i64 (lo:Int),.int .i64 (hj:Int)] 3)).drew:=Below.mono ((hkept.out.alloc _).drew) (by simp)
    exact Below.mono (Below.grown h1 hgrow3 (by have:=hkept.out.size; simp at this; simp; omega) (fun j hj => (hown.out.lt j hj).1)) (by simp)
   have H3:Hid (w3.ownsRow (w.heap.size + 1 + 1) 3 1 (.slice (some ⟨g2,0,none⟩) (o.length + 2) cap2) (o.length + 2) (us (o ++ [lo,hj]))/\Kept ((w.alloc (Obj.cells #[.bool m,.slice (some ⟨b,off,none⟩) l.length cap] 27)).alloc (Obj.cells #[.bool false,.slice none 0 0] 71)) w3):=⟨by simpa [us] using hown3,hB3⟩
   obtain ⟨hA0',hA1',hR0',hR1'⟩:=box_kept2 hB3
   have hc3:w3.cell? ⟨b,off + i,none⟩ = some (.int .u32 (x:Int)):=by
    rw [hgrow3.cell_far _ (by simp; omega) (fun e => by have h9:w.heap.size + 1 + 1<=b:=(hown.out.lt _ e.symm).1; omega)]
    exact cell_kept ((Kept.refl wr).alloc _) hc
   refine hK.out _ _ ⟨hA1',hc3⟩ (fun hHeld => ?_)
   clear hK K hown3 hgrow3 hB3
   refine rdy 17 fun K hK => ?_
   go_simp
   refine hK.out _ _ ⟨hA1',hc3⟩ (fun hHeld => ?_)
   clear hK K
   refine dn ?_
   go_wp2
   go_roundw
   case rel =>
    refine ⟨i + 1,o ++ [lo,hj],by go_num,by omega,⟨by rw [List.length_append,ho.out.1]; simp; omega,?_,?_⟩,?_,H3.out.2⟩
    ·
     rw [show o ++ [lo,hj] = (o ++ [lo]) ++ [hj] by simp]
     exact (ho.out.2.1.snoc (by rw [HLO.out.1]; exact Nat.mod_lt _ (by decide))).snoc (by rw [HLO.out.2]; omega)
    ·
     rw [HLO.out.1,HLO.out.2]; exact unpack_step ho.out.1 HX.out ho.out.2.2
    ·
     rw [List.length_append]; exact H3.out.1
   case measure => simp [intOf]; omega
  ·
   have hie:i = l.length:=by omega
   have HV:Hid (D.val o = M.val l/\o.length = 2 * l.length):=by
    refine ⟨?_,by rw [ho.out.1,hie]⟩
    have:=ho.out.2.2
    rwa [List.take_of_length_le (by omega)] at this
   obtain ⟨aod,capd,rfl⟩:=own_shape' hown.out
   have HS:Hid (Sl wr (.slice aod o.length capd) o):=(New.of_owns hown.out ho.out.2.1).sl
   have hol:o.length<=1000:=by rw [ho.out.1]; omega
   have HK:Hid (Kept w wr):=(((Kept.refl w).alloc _).alloc _).trans hkept.out
   have hf:=hkept.out.frozens
   clear hie
   go_wp2_with fail
   refine (trim_any _ HS.out (by omega)).mono ?_
   rintro e w9 ⟨rfl,v',l',rfl,hs',ht',hv',hl'⟩
   obtain ⟨hbd',ao',cap',rfl,hx'⟩:=hs'
   have HR:Hid (Sl w9 (.slice ao' l'.length cap') l'/\D.Tr l'/\D.val l' = D.val o/\l'.length<=o.length):=⟨⟨hbd',ao',cap',rfl,hx'⟩,ht',hv',hl'⟩
   have hll:l'.length<=1000:=by omega
   have HZ:Hid (int m l' = M.int m l/\l'.length<=2 * l.length):=⟨by unfold int M.int; rw [hv',HV.out.1],by have:=HV.out.2; omega⟩
   clear hx' ht' hv' hl' hbd'
   rcases m with _ | _
   all_goals
    go_wp2
    first
     | exact bodyPost_ret (v:=.agg #[.bool false,.slice ao' l'.length cap']) (by simp [results,Tryz.results52,go_sem,hR0,hR1]) rfl ⟨(HK.out.setCell (by simp) _).setCell (by simp) _,false && decide (0 < l'.length),ao',_,cap',rfl,NIs.mk (HR.out.1.box hR0 hR1 _ _) HR.out.2.1 HZ.out.1,HZ.out.2⟩
     | exact bodyPost_ret (v:=.agg #[.bool (decide (0 < l'.length)),.slice ao' l'.length cap']) (by simp [results,Tryz.results52,go_sem,hR0,hR1]) rfl ⟨(HK.out.setCell (by simp) _).setCell (by simp) _,true && decide (0 < l'.length),ao',_,cap',by simp,NIs.mk (HR.out.1.box hR0 hR1 _ _) HR.out.2.1 HZ.out.1,HZ.out.2⟩
set_option maxRecDepth 100000 in
set_option maxHeartbeats 2000000 in
theorem Less_any (m n:Bool) (aoa aob:Option Addr) (ka kb capa capb:Nat) (x y:Int) (w:World) (ha:NIs w m (.slice aoa ka capa) x) (hb:NIs w n (.slice aob kb capb) y) (hla:ka<=5000) (hlb:kb<=5000) :
  Calls Tryz.prog 89 #[.agg #[.bool m,.slice aoa ka capa],.agg #[.bool n,.slice aob kb capb]] w fun e w' => Kept w w'/\∃ s ao k cap,e = .returned (.agg #[.bool s,.slice ao k cap])/\NIs w' s (.slice ao k cap) (x - y)/\k<=max ka kb + 1:=by
 have HA:Hid (NIs w m (.slice aoa ka capa) x):=ha
 have HB:Hid (NIs w n (.slice aob kb capb) y):=hb
 have K3:∀ x y z,Kept w (((w.alloc x).alloc y).alloc z):=fun x y z => (((Kept.refl w).alloc x).alloc y).alloc z
 have hne1:¬ (w.heap.size + 1 + 1 = w.heap.size):=by omega
 clear ha hb
 go_enter Tryz.func89,Tryz.ntmps89
 go_wp2_with fail
 go_region_held3 (fun w' => w'.cell? ⟨w.heap.size,0,none⟩ = some (.bool m)/\w'.cell? ⟨w.heap.size,1,none⟩ = some (.slice aoa ka capa)/\w'.cell? ⟨w.heap.size + 1,0,none⟩ = some (.bool n)/\w'.cell? ⟨w.heap.size + 1,1,none⟩ = some (.slice aob kb capb)) (go_keep) (first
  | (go_at_call 116; refine (Minus_any n aob kb capb y _ (HB.out.kept (K3 _ _ _).drew) (by omega)).mono ?_; rintro e w1 ⟨hk,s1,a1,c1,rfl,hN1⟩; obtain ⟨hA0,hA1,hB0,hB1,hR0,hR1⟩:=box_kept3 (((Kept.refl _).drew).trans hk))
  | (go_at_call 115; refine (Plus_any m s1 aoa a1 ka kb capa c1 x (-y) _ (HA.out.kept ((K3 _ _ _).drew.trans hk)) hN1 hla hlb).mono ?_; rintro e w2 ⟨hk2,s2,a2,k2,c2,rfl,hN2,hl2⟩; obtain ⟨gA0,gA1,gB0,gB1,gR0,gR1⟩:=box_kept3 ((((Kept.refl _).drew).trans hk).trans hk2); have hf:=((((Kept.refl _).drew).trans hk).trans hk2).frozens))
 have HK:Hid (Kept w w2):=(((K3 _ _ _).drew).trans hk).trans hk2
 have HN:Hid (NIs w2 s2 (.slice a2 k2 c2) (x - y)/\k2<=max ka kb + 1):=⟨by rw [Int.sub_eq_add_neg]; exact hN2,hl2⟩
 clear hk hk2 hN1 hN2 hl2 K3 hA0 hA1 hB0 hB1 hR0 hR1
 go_wp2
 obtain ⟨l,hs,hr⟩:=HN.out.1
 exact bodyPost_ret (v:=.agg #[.bool s2,.slice a2 k2 c2]) (by simp [results,Tryz.results89,go_sem,gR0,gR1]) rfl ⟨(HK.out.setCell (by simp; omega) _).setCell (by simp; omega) _,s2,a2,k2,c2,rfl,⟨l,hs.box gR0 gR1 _ _,hr⟩,HN.out.2⟩
theorem sign_of {w:World} {m:Bool} {ao:Option Addr} {k cap:Nat} {z:Int} (h:NIs w m (.slice ao k cap) z):isgn z 0 = if k = 0 then 0 else if m then -1 else 1:=by
 obtain ⟨l,hs,hr,rfl⟩:=h
 have e:=hs.len
 subst e
 by_cases h0:l.length = 0
 ·
  rw [if_pos h0,int_zero h0]; rfl
 ·
  have hp:=D.val_pos hr.tr (fun e => h0 (by rw [e]; rfl))
  rw [if_neg h0]
  unfold isgn int
  cases m <;> simp <;> omega
set_option maxHeartbeats 1000000 in
theorem Sign_any (m:Bool) (ao:Option Addr) (k cap:Nat) (z:Int) (w:World) (h:NIs w m (.slice ao k cap) z) (_hk:k<=1000000) :
  Calls Tryz.prog 88 #[.agg #[.bool m,.slice ao k cap]] w fun e w' => e = .returned (.int .i64 (isgn z 0))/\Kept w w':=by
 rw [sign_of h]
 clear h
 by_cases h0:k = 0
 ·
  rw [if_pos h0]
  have hb:((k:Int) == 0) = true:=beq_iff_eq.2 (by omega)
  clear h0
  go_enter Tryz.func88,Tryz.ntmps88
  go_wp2
  go_ret
  exact ⟨rfl,(Kept.refl w).alloc _⟩
 ·
  rw [if_neg h0]
  have hb:((k:Int) == 0) = false:=beq_eq_false_iff_ne.2 (by omega)
  clear h0
  cases m
  all_goals
   go_enter Tryz.func88,Tryz.ntmps88
   go_wp2
   go_ret
   exact ⟨rfl,(Kept.refl w).alloc _⟩
theorem isgn_sub (x y:Int):isgn (x - y) 0 = isgn x y:=by
 unfold isgn
 by_cases h1:x < y
 ·
  rw [if_pos h1,if_pos (by omega)]
 ·
  rw [if_neg h1,if_neg (by omega)]
  by_cases h2:x = y
  ·
   rw [if_pos h2,if_pos (by omega)]
  ·
   rw [if_neg h2,if_neg (by omega)]
set_option maxHeartbeats 1000000 in
theorem Held_any (m n:Bool) (aoa aob:Option Addr) (ka kb capa capb:Nat) (x y:Int) (w:World) (ha:NIs w m (.slice aoa ka capa) x) (hb:NIs w n (.slice aob kb capb) y) (hla:ka<=5000) (hlb:kb<=5000) :
  Calls Tryz.prog 50 #[.agg #[.bool m,.slice aoa ka capa],.agg #[.bool n,.slice aob kb capb]] w fun e w' => e = .returned (.int .i64 (isgn x y))/\Kept w w':=by
 have HA:Hid (NIs w m (.slice aoa ka capa) x):=ha
 have HB:Hid (NIs w n (.slice aob kb capb) y):=hb
 have K2:∀ x y,Kept w ((w.alloc x).alloc y):=fun x y => ((Kept.refl w).alloc x).alloc y
 clear ha hb
 go_enter Tryz.func50,Tryz.ntmps50
 go_wp2_with fail
 refine (Less_any m n aoa aob ka kb capa capb x y _ (HA.out.kept (K2 _ _)) (HB.out.kept (K2 _ _)) hla hlb).mono ?_
 rintro e w1 ⟨hk,s1,a1,k1,c1,rfl,hN1,hl1⟩
 have HN:Hid (NIs w1 s1 (.slice a1 k1 c1) (x - y)/\Kept w w1):=⟨hN1,(K2 _ _).trans hk⟩
 clear hk hN1 K2
 go_wp2_with fail
 refine (Sign_any s1 a1 k1 c1 (x - y) _ HN.out.1 (by omega)).mono ?_
 rintro e w2 ⟨rfl,hk2⟩
 rw [isgn_sub]
 have HK:Hid (Kept w w2):=HN.out.2.trans hk2
 clear hk2
 go_wp2
 go_ret
 exact ⟨rfl,HK.out⟩
end D
end Go.Proofs.YthfbfbfambbkaaaGreatDoor

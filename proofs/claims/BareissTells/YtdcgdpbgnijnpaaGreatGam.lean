/- Take of package shuntref01: limbs as digits in base 65536. Take of package shuntref01: its digits are new. Less, Sign, Held of package shuntref01. -/
import Derived.Test.YtdcgdpbgnijnpaaGreatGak
import Derived.Deep.AppendLies
import Derived.Test.YtdcgdpbgnijnpaaGreatGaf
namespace Go.Proofs.YtdcgdpbgnijnpaaGreat
open Go.RowKit
namespace D
theorem unpack_step {l o:List Nat} {i x:Nat} (hi:o.length = 2 * i) (hx:x = l.getD i 0) (h:D.val o = M.val (l.take i)):D.val (o ++ [x % 65536,x / 65536]) = M.val (l.take (i + 1)):=by
 rw [show o ++ [x % 65536,x / 65536] = (o ++ [x % 65536]) ++ [x / 65536] by simp,D.val_snoc,D.val_snoc,h,M.take_succ_getD,← hx,List.length_append,List.length_singleton,hi,Nat.pow_succ,show 65536 ^ (2 * i) = 4294967296 ^ i by rw [Nat.pow_mul],Nat.mul_assoc,Nat.add_assoc,← Nat.mul_add]
 congr 2
 omega
theorem sl_at {w:World} {ao:Option Addr} {n cap:Nat} {l:List Nat} (h:Go.Proofs.YtdcgdpbgnijnpaaGreat.Sl w (.slice ao n cap) l) {k:Nat} (hk:k < l.length):∃ b off,ao = some ⟨b,off,none⟩∧l.length≤cap∧b < w.heap.size∧w.cell? ⟨b,off + k,none⟩ = some (.int .u32 ((l.getD k 0:Nat):Int)):=by
 obtain ⟨_,ao',cap',he,hx⟩:=h
 simp only [Value.slice.injEq] at he
 obtain ⟨rfl,_,rfl⟩:=he
 obtain ⟨h1,b,off,rfl,h2,hc⟩:=hx (by omega)
 exact ⟨b,off,rfl,h1,h2,hc k hk⟩
theorem own_shape' {w:World} {B:Nat} {t:TypeId} {s:Nat} {v:Value} {n:Nat} {xs:List Value} (h:w.ownsRow B t s v n xs):∃ ao cap,v = .slice ao n cap:=by
 obtain ⟨_,⟨rfl,rfl⟩ | ⟨b,N,cur,rfl,_⟩⟩:=h
 ·
  exact ⟨_,_,rfl⟩
 ·
  exact ⟨_,_,rfl⟩
theorem cells_two (w:World) (x y:Value) (t:TypeId) (b:Nat) (hb:w.heap.size = b):∀ j u,([x,y]:List Value)[j]? = some u→(w.alloc (.cells #[x,y] t)).cell? ((⟨b,0,none⟩:Addr).add j) = some u:=by
 subst hb
 intro j u hu
 match j,hu with
 | 0,hu => simp at hu; subst hu; exact World.cell?_alloc_at _ _ _ _ (by simp)
 | 1,hu => simp at hu; subst hu; exact World.cell?_alloc_at _ _ _ _ (by simp)
end D
end Go.Proofs.YtdcgdpbgnijnpaaGreat

namespace Go.Proofs.YtdcgdpbgnijnpaaGreat
open Go.RowKit
namespace D
set_option maxRecDepth 100000 in
set_option maxHeartbeats 4000000 in
theorem Take_new (m:Bool) (ao:Option Addr) (n cap:Nat) (l:List Nat) (w:World) (h:Go.Proofs.YtdcgdpbgnijnpaaGreat.Sl w (.slice ao n cap) l) (hl:l.length≤80) :
  Calls Tryz.prog 52 #[.agg #[.bool m,.slice ao n cap]] w fun e w' => Kept w w'∧∃ s ao' k cap',e = .returned (.agg #[.bool s,.slice ao' k cap'])∧NIs w' s (.slice ao' k cap') (M.int m l)∧k≤2 * l.length∧(0 < k→∃ b,ao' = some ⟨b,0,none⟩∧w.heap.size≤b):=by
 have hn:=Go.Proofs.YtdcgdpbgnijnpaaGreat.Sl.len h
 subst hn
 have HA:Hid (Go.Proofs.YtdcgdpbgnijnpaaGreat.Sl w (.slice ao l.length cap) l):=h
 have bdl:=h.bd
 obtain ⟨i0,hi,hz0,hz1,hz2⟩:=info_parts infoI
 clear h
 go_enter Tryz.func52,Tryz.ntmps52
 go_wp2
 go_loopw [3,4] (fun vd vi wr => ∃ (i:Nat) (o:List Nat),vi = .int .i64 (i:Int)∧i≤l.length∧Hid (o.length = 2 * i∧D.Bd o∧D.val o = M.val (l.take i))∧Hid (wr.ownsRow (w.heap.size + 1 + 1) 3 1 vd o.length (us o))∧Hid (Kept ((w.alloc (Obj.cells #[.bool m,.slice ao l.length cap] 37)).alloc (Obj.cells #[.bool false,.slice none 0 0] 51)) wr)) (fun _ vi _ => l.length - (intOf vi).toNat)
 case atStart => exact ⟨0,[],rfl,by omega,⟨rfl,D.Bd_nil,rfl⟩,World.ownsRow_nil _ _ _ _,Kept.refl _⟩
 case round =>
  obtain ⟨i,o,rfl,hil,ho,hown,hkept⟩:=hrel
  obtain ⟨hA0,hA1,hR0,hR1⟩:=box_kept2 hkept.out
  by_cases hlt:i < l.length
  ·
   obtain ⟨b,off,rfl,hcap,hlb,hc0⟩:=sl_at HA.out hlt
   have hc:=cell_kept ((((Kept.refl w).alloc _).alloc _).trans hkept.out) hc0
   have hxb:=bdl.getD i
   obtain ⟨x,hx⟩:∃ x,x = l.getD i 0:=⟨_,rfl⟩
   clear hc0
   rw [← hx] at hc hxb
   have HX:Hid (x = l.getD i 0):=hx
   have hix:(i:Int) < (l.length:Int):=by omega
   have hix0:(0:Int)≤(i:Int):=by omega
   have hszr:w.heap.size + 1 + 1≤wr.heap.size:=by have:=hkept.out.size; simpa using this
   have hml:o.length + 2≤maxLen:=by rw [ho.out.1]; unfold maxLen; omega
   have hol:o.length≤1000:=by rw [ho.out.1]; omega
   have e1:IntKind.i64.wrap ((x:Int).tmod 65536) = ((x % 65536:Nat):Int):=by rw [Int.tmod_eq_emod_of_nonneg (by omega),IntKind.wrap_i64]; omega
   have e2:IntKind.i64.wrap (IntKind.u32.wrap ((x:Int) / 65536)) = ((x / 65536:Nat):Int):=by rw [IntKind.wrap_u32,IntKind.wrap_i64]; omega
   have E:Hid (IntKind.i64.wrap ((x:Int).tmod 65536) = ((x % 65536:Nat):Int)∧IntKind.i64.wrap (IntKind.u32.wrap ((x:Int) / 65536)) = ((x / 65536:Nat):Int)):=⟨e1,e2⟩
   obtain ⟨lo,hlo⟩:∃ lo,lo = x % 65536:=⟨_,rfl⟩
   obtain ⟨hj,hhj⟩:∃ hj,hj = x / 65536:=⟨_,rfl⟩
   have HLO:Hid (lo = x % 65536∧hj = x / 65536):=⟨hlo,hhj⟩
   clear hx e1 e2 hlo hhj
   go_wp2_with fail
   refine wp_region_held_drew (S:=fun w' => w'.cell? ⟨w.heap.size,1,none⟩ = some (.slice (some ⟨b,off,none⟩) l.length cap)∧w'.cell? ⟨b,off + i,none⟩ = some (.int .u32 (x:Int))) (by kernel_rfl) ⟨hA1,hc⟩ (fun hHeld => ?_)
   refine wpAnyH_take (i:=0) (v:=?v0) rfl (by kernel_rfl) (by kernel_rfl) (by kernel_rfl) (fun _ _ _ h => h) (Or.inl ⟨by rfl,?y0⟩) hHeld ?r0
   case y0 =>
    intro w' hSw
    obtain ⟨hSw0,hSw1⟩:=hSw
    go_simp
    with_reducible rfl
   case r0 =>
   refine wpAnyH_take (i:=1) (v:=?v1) rfl (by kernel_rfl) (by kernel_rfl) (by kernel_rfl) (fun _ _ _ h => h) (Or.inl ⟨by rfl,?y1⟩) hHeld ?r1
   case y1 =>
    intro w' hSw
    obtain ⟨hSw0,hSw1⟩:=hSw
    go_simp
    with_reducible rfl
   case r1 =>
   refine wpAnyH_take (i:=2) (v:=?v2) rfl (by kernel_rfl) (by kernel_rfl) (by kernel_rfl) (fun _ _ _ h => h) (Or.inl ⟨by rfl,?y2⟩) hHeld ?r2
   case y2 =>
    intro w' hSw
    obtain ⟨hSw0,hSw1⟩:=hSw
    go_simp
    with_reducible rfl
   case r2 =>
   refine wpAnyH_take (i:=3) (v:=?v3) rfl (by kernel_rfl) (by kernel_rfl) (by kernel_rfl) (fun _ _ _ h => h) (Or.inl ⟨by rfl,?y3⟩) hHeld ?r3
   case y3 =>
    intro w' hSw
    obtain ⟨hSw0,hSw1⟩:=hSw
    go_simp
    with_reducible rfl
   case r3 =>
   refine wpAnyH_take (i:=4) (v:=?v4) rfl (by kernel_rfl) (by kernel_rfl) (by kernel_rfl) (fun _ _ _ h => h) (Or.inl ⟨by rfl,?y4⟩) hHeld ?r4
   case y4 =>
    intro w' hSw
    obtain ⟨hSw0,hSw1⟩:=hSw
    go_simp
    with_reducible rfl
   case r4 =>
   refine wpAnyH_take (i:=5) (v:=?v5) rfl (by kernel_rfl) (by kernel_rfl) (by kernel_rfl) (fun _ _ _ h => h) (Or.inl ⟨by rfl,?y5⟩) hHeld ?r5
   case y5 =>
    intro w' hSw
    obtain ⟨hSw0,hSw1⟩:=hSw
    go_simp
    with_reducible rfl
   case r5 =>
   refine wpAnyH_take (i:=6) (v:=?v6) rfl (by kernel_rfl) (by kernel_rfl) (by kernel_rfl) (fun _ _ _ h => h) (Or.inl ⟨by rfl,?y6⟩) hHeld ?r6
   case y6 =>
    intro w' hSw
    obtain ⟨hSw0,hSw1⟩:=hSw
    go_simp
    with_reducible rfl
   case r6 =>
   refine wpAnyH_take (i:=7) (v:=?v7) rfl (by kernel_rfl) (by kernel_rfl) (by kernel_rfl) (fun _ _ _ h => h) (Or.inl ⟨by rfl,?y7⟩) hHeld ?r7
   case y7 =>
    intro w' hSw
    obtain ⟨hSw0,hSw1⟩:=hSw
    go_simp
    with_reducible rfl
   case r7 =>
   refine wpAnyH_take (i:=8) (v:=?v8) rfl (by kernel_rfl) (by kernel_rfl) (by kernel_rfl) (fun _ _ _ h => h) (Or.inl ⟨by rfl,?y8⟩) hHeld ?r8
   case y8 =>
    intro w' hSw
    obtain ⟨hSw0,hSw1⟩:=hSw
    go_simp
    with_reducible rfl
   case r8 =>
   refine wpAnyH_take (i:=9) (v:=?v9) rfl (by kernel_rfl) (by kernel_rfl) (by kernel_rfl) (fun _ _ _ h => h) (Or.inl ⟨by rfl,?y9⟩) hHeld ?r9
   case y9 =>
    intro w' hSw
    obtain ⟨hSw0,hSw1⟩:=hSw
    go_simp
    with_reducible rfl
   case r9 =>
   refine wpAnyH_take (i:=10) (v:=?v10) rfl (by kernel_rfl) (by kernel_rfl) (by kernel_rfl) (fun _ _ _ h => h) (Or.inl ⟨by rfl,?y10⟩) hHeld ?r10
   case y10 =>
    intro w' hSw
    obtain ⟨hSw0,hSw1⟩:=hSw
    go_simp
    with_reducible rfl
   case r10 =>
   refine wpAnyH_take (i:=11) (v:=?v11) rfl (by kernel_rfl) (by kernel_rfl) (by kernel_rfl) (fun _ _ _ h => h) (Or.inl ⟨by rfl,?y11⟩) hHeld ?r11
   case y11 =>
    intro w' hSw
    obtain ⟨hSw0,hSw1⟩:=hSw
    go_simp
    with_reducible rfl
   case r11 =>
   refine wpAnyH_take (i:=12) (v:=?v12) rfl (by kernel_rfl) (by kernel_rfl) (by kernel_rfl) (fun _ _ _ h => h) (Or.inl ⟨by rfl,?y12⟩) hHeld ?r12
   case y12 =>
    intro w' hSw
    obtain ⟨hSw0,hSw1⟩:=hSw
    go_simp
    with_reducible rfl
   case r12 =>
   refine wpAnyH_take (i:=13) (v:=?v13) rfl (by kernel_rfl) (by kernel_rfl) (by kernel_rfl) (fun _ _ _ h => h) (Or.inl ⟨by rfl,?y13⟩) hHeld ?r13
   case y13 =>
    intro w' hSw
    obtain ⟨hSw0,hSw1⟩:=hSw
    go_simp
    with_reducible rfl
   case r13 =>
   refine wpAnyH_take (i:=14) (v:=?v14) rfl (by kernel_rfl) (by kernel_rfl) (by kernel_rfl) (fun _ _ _ h => h) (Or.inl ⟨by rfl,?y14⟩) hHeld ?r14
   case y14 =>
    intro w' hSw
    obtain ⟨hSw0,hSw1⟩:=hSw
    go_simp
    with_reducible rfl
   case r14 =>
   refine wpAnyH_ready (rs:=[15]) (by kernel_rfl) (by simp) ?_
   refine AllReadyH.cons rfl (fun K hK => ?_) AllReadyH.nil
   go_simp
   simp only [E.out.1,E.out.2,← HLO.out.1,← HLO.out.2]
   refine hK.out _ _ ⟨cell_kept ((Kept.refl wr).alloc _) hA1,cell_kept ((Kept.refl wr).alloc _) hc⟩ (fun hHeld => ?_)
   clear hK K
   refine wpAnyH_ready (rs:=[16]) (by kernel_rfl) (by simp) ?_
   refine AllReadyH.cons rfl (fun K hK => ?_) AllReadyH.nil
   refine step_append_lies _ rfl (.tmp 12) (.tmp 27) 41 rfl (w.heap.size + 1 + 1) 3 i0 (.int .i64 0) 1 8 Tryz.underlying41 hi hz0 hz1 hz2 rfl (by decide) u3 o.length (us o) rfl (hown.out.alloc _ |>.drew) ⟨wr.heap.size,0,none⟩ 2 2 [.int .i64 (lo:Int),.int .i64 (hj:Int)] rfl rfl (cells_two wr _ _ _ _ rfl) (fun u hu => by simp at hu; rcases hu with rfl | rfl <;> rfl) (by omega) (by omega) (by omega) (by have:=hkept.out.size; simp at this; simp; omega) _ rfl ?_
   intro g2 cap2 w3 hown3 hgrow3 _ _
   have hB3:Kept ((w.alloc (Obj.cells #[.bool m,.slice (some ⟨b,off,none⟩) l.length cap] 37)).alloc (Obj.cells #[.bool false,.slice none 0 0] 51)) w3:=by
    have h1:Below (w.heap.size + 1 + 1) ((w.alloc (Obj.cells #[.bool m,.slice (some ⟨b,off,none⟩) l.length cap] 37)).alloc (Obj.cells #[.bool false,.slice none 0 0] 51)) (wr.alloc (Obj.cells #[.int .i64 (lo:Int),.int .i64 (hj:Int)] 3)).drew:=Below.mono ((hkept.out.alloc _).drew) (by simp)
    exact Below.mono (Below.grown h1 hgrow3 (by have:=hkept.out.size; simp at this; simp; omega) (fun j hj => (hown.out.lt j hj).1)) (by simp)
   have H3:Hid (w3.ownsRow (w.heap.size + 1 + 1) 3 1 (.slice (some ⟨g2,0,none⟩) (o.length + 2) cap2) (o.length + 2) (us (o ++ [lo,hj]))∧Kept ((w.alloc (Obj.cells #[.bool m,.slice (some ⟨b,off,none⟩) l.length cap] 37)).alloc (Obj.cells #[.bool false,.slice none 0 0] 51)) w3):=⟨by simpa [us] using hown3,hB3⟩
   obtain ⟨hA0',hA1',hR0',hR1'⟩:=box_kept2 hB3
   have hc3:w3.cell? ⟨b,off + i,none⟩ = some (.int .u32 (x:Int)):=by
    rw [hgrow3.cell_far _ (by simp; omega) (fun e => by have h9:w.heap.size + 1 + 1≤b:=(hown.out.lt _ e.symm).1; omega)]
    exact cell_kept ((Kept.refl wr).alloc _) hc
   refine hK.out _ _ ⟨hA1',hc3⟩ (fun hHeld => ?_)
   clear hK K hown3 hgrow3 hB3
   refine wpAnyH_ready (rs:=[17]) (by kernel_rfl) (by simp) ?_
   refine AllReadyH.cons rfl (fun K hK => ?_) AllReadyH.nil
   go_simp
   refine hK.out _ _ ⟨hA1',hc3⟩ (fun hHeld => ?_)
   clear hK K
   refine wpAnyH_done (by kernel_rfl) ?_ _
   go_wp2
   go_roundw
   case rel =>
    refine ⟨i + 1,o ++ [lo,hj],by go_num,by omega,⟨by rw [List.length_append,ho.out.1]; simp; omega,?_,?_⟩,?_,H3.out.2⟩
    ·
     rw [show o ++ [lo,hj] = (o ++ [lo]) ++ [hj] by simp]
     exact (ho.out.2.1.snoc (by rw [HLO.out.1]; exact Nat.mod_lt _ (by decide))).snoc (by rw [HLO.out.2]; omega)
    ·
     rw [HLO.out.1,HLO.out.2]; exact unpack_step ho.out.1 HX.out ho.out.2.2
    ·
     rw [List.length_append]; exact H3.out.1
   case measure => simp [intOf]; omega
  ·
   have hie:i = l.length:=by omega
   have HV:Hid (D.val o = M.val l∧o.length = 2 * l.length):=by
    refine ⟨?_,by rw [ho.out.1,hie]⟩
    have:=ho.out.2.2
    rwa [List.take_of_length_le (by omega)] at this
   obtain ⟨aod,capd,rfl⟩:=own_shape' hown.out
   have HS:Hid (New (w.heap.size + 1 + 1) wr (.slice aod o.length capd) o):=New.of_owns hown.out ho.out.2.1
   have hol:o.length≤1000:=by rw [ho.out.1]; omega
   have HK:Hid (Kept w wr):=(((Kept.refl w).alloc _).alloc _).trans hkept.out
   have hf:=hkept.out.frozens
   clear hie
   go_wp2_with fail
   refine (trim_newE _ HS.out (by omega)).mono ?_
   rintro e w9 ⟨rfl,v',l',rfl,hs',ht',hv',hl'⟩
   obtain ⟨⟨hbd',ao',cap',rfl,hx'⟩,hnw⟩:=hs'
   have HW:Hid (0 < l'.length→∃ b,ao' = some ⟨b,0,none⟩∧w.heap.size≤b):=fun h0 => by
    obtain ⟨b,n,c,e,hb⟩:=hnw h0
    injection e with e1 _ _
    exact ⟨b,e1,by omega⟩
   have HR:Hid (Sl w9 (.slice ao' l'.length cap') l'∧D.Tr l'∧D.val l' = D.val o∧l'.length≤o.length):=⟨⟨hbd',ao',cap',rfl,hx'⟩,ht',hv',hl'⟩
   have hll:l'.length≤1000:=by omega
   have HZ:Hid (int m l' = M.int m l∧l'.length≤2 * l.length):=⟨by unfold int M.int; rw [hv',HV.out.1],by have:=HV.out.2; omega⟩
   clear hx' ht' hv' hl' hbd' hnw
   rcases m with _ | _
   all_goals
    go_wp2
    first
     | exact bodyPost_ret (v:=.agg #[.bool false,.slice ao' l'.length cap']) (by simp [results,Tryz.results52,go_sem,hR0,hR1]) rfl ⟨(HK.out.setCell (by simp) _).setCell (by simp) _,false && decide (0 < l'.length),ao',_,cap',rfl,NIs.mk (HR.out.1.box hR0 hR1 _ _) HR.out.2.1 HZ.out.1,HZ.out.2,HW.out⟩
     | exact bodyPost_ret (v:=.agg #[.bool (decide (0 < l'.length)),.slice ao' l'.length cap']) (by simp [results,Tryz.results52,go_sem,hR0,hR1]) rfl ⟨(HK.out.setCell (by simp) _).setCell (by simp) _,true && decide (0 < l'.length),ao',_,cap',by simp,NIs.mk (HR.out.1.box hR0 hR1 _ _) HR.out.2.1 HZ.out.1,HZ.out.2,HW.out⟩
end D
end Go.Proofs.YtdcgdpbgnijnpaaGreat

namespace Go.Proofs.YtdcgdpbgnijnpaaGreat
open Go.RowKit
namespace D
set_option maxRecDepth 100000 in
set_option maxHeartbeats 2000000 in
theorem Less_any (m n:Bool) (aoa aob:Option Addr) (ka kb capa capb:Nat) (x y:Int) (w:World) (ha:NIs w m (.slice aoa ka capa) x) (hb:NIs w n (.slice aob kb capb) y) (hla:ka≤5000000) (hlb:kb≤5000000) :
  Calls Tryz.prog 56 #[.agg #[.bool m,.slice aoa ka capa],.agg #[.bool n,.slice aob kb capb]] w fun e w' => Kept w w'∧∃ s ao k cap,e = .returned (.agg #[.bool s,.slice ao k cap])∧NIs w' s (.slice ao k cap) (x - y)∧k≤max ka kb + 1:=by
 have HA:Hid (NIs w m (.slice aoa ka capa) x):=ha
 have HB:Hid (NIs w n (.slice aob kb capb) y):=hb
 have K3:∀ x y z,Kept w (((w.alloc x).alloc y).alloc z):=fun x y z => (((Kept.refl w).alloc x).alloc y).alloc z
 have hne1:¬ (w.heap.size + 1 + 1 = w.heap.size):=by omega
 clear ha hb
 go_enter Tryz.func56,Tryz.ntmps56
 go_wp2_with fail
 go_region_held3 (fun w' => w'.cell? ⟨w.heap.size,0,none⟩ = some (.bool m)∧w'.cell? ⟨w.heap.size,1,none⟩ = some (.slice aoa ka capa)∧w'.cell? ⟨w.heap.size + 1,0,none⟩ = some (.bool n)∧w'.cell? ⟨w.heap.size + 1,1,none⟩ = some (.slice aob kb capb)) (go_keep) (first
  | (go_at_call 72; refine (Minus_any n aob kb capb y _ (HB.out.kept (K3 _ _ _).drew) (by omega)).mono ?_; rintro e w1 ⟨hk,s1,a1,c1,rfl,hN1⟩; obtain ⟨hA0,hA1,hB0,hB1,hR0,hR1⟩:=box_kept3 (((Kept.refl _).drew).trans hk))
  | (go_at_call 87; refine (Plus_any m s1 aoa a1 ka kb capa c1 x (-y) _ (HA.out.kept ((K3 _ _ _).drew.trans hk)) hN1 hla hlb).mono ?_; rintro e w2 ⟨hk2,s2,a2,k2,c2,rfl,hN2,hl2⟩; obtain ⟨gA0,gA1,gB0,gB1,gR0,gR1⟩:=box_kept3 ((((Kept.refl _).drew).trans hk).trans hk2); have hf:=((((Kept.refl _).drew).trans hk).trans hk2).frozens))
 have HK:Hid (Kept w w2):=(((K3 _ _ _).drew).trans hk).trans hk2
 have HN:Hid (NIs w2 s2 (.slice a2 k2 c2) (x - y)∧k2≤max ka kb + 1):=⟨by rw [Int.sub_eq_add_neg]; exact hN2,hl2⟩
 clear hk hk2 hN1 hN2 hl2 K3 hA0 hA1 hB0 hB1 hR0 hR1
 go_wp2
 obtain ⟨l,hs,hr⟩:=HN.out.1
 exact bodyPost_ret (v:=.agg #[.bool s2,.slice a2 k2 c2]) (by simp [results,Tryz.results56,go_sem,gR0,gR1]) rfl ⟨(HK.out.setCell (by simp; omega) _).setCell (by simp; omega) _,s2,a2,k2,c2,rfl,⟨l,hs.box gR0 gR1 _ _,hr⟩,HN.out.2⟩
theorem sign_of {w:World} {m:Bool} {ao:Option Addr} {k cap:Nat} {z:Int} (h:NIs w m (.slice ao k cap) z):isgn z 0 = if k = 0 then 0 else if m then -1 else 1:=by
 obtain ⟨l,hs,hr,rfl⟩:=h
 have e:=hs.len
 subst e
 by_cases h0:l.length = 0
 ·
  rw [if_pos h0,int_zero h0]; rfl
 ·
  have hp:=D.val_pos hr.tr (fun e => h0 (by rw [e]; rfl))
  rw [if_neg h0]
  unfold isgn int
  cases m <;> simp <;> omega
set_option maxHeartbeats 1000000 in
theorem Sign_any (m:Bool) (ao:Option Addr) (k cap:Nat) (z:Int) (w:World) (h:NIs w m (.slice ao k cap) z) (_hk:k≤100000000) :
  Calls Tryz.prog 55 #[.agg #[.bool m,.slice ao k cap]] w fun e w' => e = .returned (.int .i64 (isgn z 0))∧Kept w w':=by
 rw [sign_of h]
 clear h
 by_cases h0:k = 0
 ·
  rw [if_pos h0]
  have hb:((k:Int) == 0) = true:=beq_iff_eq.2 (by omega)
  clear h0
  go_enter Tryz.func55,Tryz.ntmps55
  go_wp2
  go_ret
  exact ⟨rfl,(Kept.refl w).alloc _⟩
 ·
  rw [if_neg h0]
  have hb:((k:Int) == 0) = false:=beq_eq_false_iff_ne.2 (by omega)
  clear h0
  cases m
  all_goals
   go_enter Tryz.func55,Tryz.ntmps55
   go_wp2
   go_ret
   exact ⟨rfl,(Kept.refl w).alloc _⟩
end D
end Go.Proofs.YtdcgdpbgnijnpaaGreat

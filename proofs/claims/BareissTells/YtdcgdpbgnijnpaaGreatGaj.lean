/- plus, minus, mags of package shuntref01: sums and differences of magnitudes in digits, and how they are held against one another. minus, mags of package shuntref01. -/
import Derived.Test.YtdcgdpbgnijnpaaGreatGae
import Derived.Deep.LoopGhost
namespace Go.Proofs.YtdcgdpbgnijnpaaGreat
open Go.RowKit
namespace D
theorem sum_step {a b p:List Nat} {k c x y s:Nat} (hx:x = a.getD k 0) (hy:y = b.getD k 0) (hs:s = c + x + y) (hp:p.length = k)
  (h:D.val p + 65536 ^ k * c = D.val (a.take k) + D.val (b.take k)) :
  D.val (p ++ [s % 65536]) + 65536 ^ (k + 1) * (s / 65536) = D.val (a.take (k + 1)) + D.val (b.take (k + 1)):=by
 rw [D.val_snoc,hp,D.take_succ_getD,D.take_succ_getD,← hx,← hy,Nat.pow_succ,Nat.mul_assoc]
 have e:65536 ^ k * (s % 65536) + 65536 ^ k * (65536 * (s / 65536)) = 65536 ^ k * s:=by
  rw [← Nat.mul_add]; congr 1; omega
 have e2:65536 ^ k * s = 65536 ^ k * c + 65536 ^ k * x + 65536 ^ k * y:=by rw [hs,Nat.mul_add,Nat.mul_add]
 omega
theorem getD_out {l:List Nat} {k:Nat} (h:¬ k < l.length):l.getD k 0 = 0:=by
 rw [List.getD_eq_getElem?_getD,List.getElem?_eq_none (by omega)]; rfl
theorem Sl.at {w:World} {ao:Option Addr} {cap:Nat} {l:List Nat} (h:Sl w (.slice ao l.length cap) l) {k:Nat} (hk:k < l.length):∃ b off:Nat,ao = some ⟨b,off,none⟩∧l.length≤cap∧w.cell? ⟨b,off + k,none⟩ = some (.int .i64 ((l.getD k 0:Nat):Int)):=by
 obtain ⟨_,ao',cap',hv,hx⟩:=h
 simp only [Value.slice.injEq,true_and] at hv
 obtain ⟨rfl,rfl⟩:=hv
 obtain ⟨h1,b,off,e,_,hc⟩:=hx (by omega)
 exact ⟨b,off,e,h1,hc k hk⟩
set_option maxRecDepth 100000 in
set_option maxHeartbeats 2000000 in
theorem plus_any (va vb:Value) (a b:List Nat) (w:World) (ha:Sl w va a) (hb:Sl w vb b) (hla:a.length≤5000000) (hlb:b.length≤5000000) :
  Calls Tryz.prog 107 #[va,vb] w fun e w' => Kept w w'∧∃ v' l',e = .returned v'∧Sl w' v' l'∧D.Tr l'∧D.val l' = D.val a + D.val b∧l'.length≤max a.length b.length + 1:=by
 have HA:Hid (Sl w va a):=ha
 have HB:Hid (Sl w vb b):=hb
 obtain ⟨bda,aoa,capa,rfl,_⟩:=ha
 obtain ⟨bdb,aob,capb,rfl,_⟩:=hb
 obtain ⟨i0,hi,hz0,hz1,hz2⟩:=info_parts infoI
 go_enter Tryz.func107,Tryz.ntmps107
 go_wp2
 go_loopw [5,6,7] (fun vd vc vi wr => ∃ (k c:Nat) (o:List Nat),c≤1∧vi = .int .i64 k∧vc = .int .i64 c∧k≤max a.length b.length + 1∧(k = max a.length b.length + 1→c = 0)∧Hid (o.length = k∧D.Bd o∧D.val o + 65536 ^ k * c = D.val (a.take k) + D.val (b.take k)) ∧
   Hid (wr.ownsRow w.heap.size 3 1 vd o.length (us o))∧Hid (Kept w wr)) (fun _ _ vi _ => a.length + b.length + 2 - (intOf vi).toNat)
 case atStart => exact ⟨0,0,[],by omega,rfl,rfl,by omega,fun _ => rfl,⟨rfl,D.Bd_nil,by simp [D.val]⟩,World.ownsRow_nil _ _ _ _,Kept.refl w⟩
 case round =>
  obtain ⟨k,c,o,hc,rfl,rfl,hk,hkc,ho,hown,hkept⟩:=hrel
  have hwb:∀ x,w.heap.size≤(wr.alloc x).heap.size:=fun x => by have:=hkept.out.size; simp; omega
  have hml:o.length + 1≤maxLen:=by rw [ho.out.1]; unfold maxLen; omega
  have hol:o.length≤20000002:=by rw [ho.out.1]; omega
  by_cases hka:k < a.length
  ·
   by_cases hkb:k < b.length
   ·
    obtain ⟨ba,oa,rfl,hcapa,hca⟩:=(HA.out.kept hkept.out).at hka
    have hxb:=bda.getD k
    obtain ⟨x,hx⟩:∃ x,x = a.getD k 0:=⟨_,rfl⟩
    rw [← hx] at hca hxb
    have HX:Hid (x = a.getD k 0):=hx
    clear hx
    obtain ⟨bb,ob,rfl,hcapb,hcb⟩:=(HB.out.kept hkept.out).at hkb
    have hyb:=bdb.getD k
    obtain ⟨y,hy⟩:∃ y,y = b.getD k 0:=⟨_,rfl⟩
    rw [← hy] at hcb hyb
    have HY:Hid (y = b.getD k 0):=hy
    clear hy
    go_wp2_with (at_builtin; refine wpList_append_own _ rfl _ _ 41 rfl w.heap.size 3 i0 (.int .i64 0) 1 8 Tryz.underlying41 hi hz0 hz1 hz2 rfl (by decide) _ _ _ rfl (hown.out.alloc _) ⟨wr.heap.size,0,none⟩ 1 1 [.int .i64 (((c:Int) + x + y) % 65536)] rfl rfl (cell_new wr _ _) (fun u hu => by simp at hu; subst hu; rfl) (by omega) (by omega) (by exact hwb _) ?_)
    intro v' w3 hown' hgrow _
    have HN:Hid (w3.ownsRow w.heap.size 3 1 v' (o.length + 1) (us (o ++ [(c + x + y) % 65536]))∧Kept w w3):=by
     refine ⟨?_,Below.grown (hkept.out.alloc _) hgrow ((hkept.out.alloc _).size) (fun j hj => (hown.out.lt j hj).1)⟩
     rw [us_snoc,show (((c + x + y) % 65536:Nat):Int) = ((c:Int) + x + y) % 65536 by omega]; exact hown'
    clear hown' hgrow hwb
    go_wp2
    go_roundw
    case rel => exact ⟨k + 1,(c + x + y) / 65536,o ++ [(c + x + y) % 65536],by omega,by go_num,by simp,by omega,by omega,⟨by rw [List.length_append,ho.out.1]; rfl,ho.out.2.1.snoc (Nat.mod_lt _ (by decide)),sum_step HX.out HY.out (by omega) ho.out.1 ho.out.2.2⟩,by rw [List.length_append]; exact HN.out.1,HN.out.2⟩
    case measure => simp [intOf]; omega
   ·
    obtain ⟨ba,oa,rfl,hcapa,hca⟩:=(HA.out.kept hkept.out).at hka
    have hxb:=bda.getD k
    obtain ⟨x,hx⟩:∃ x,x = a.getD k 0:=⟨_,rfl⟩
    rw [← hx] at hca hxb
    have HX:Hid (x = a.getD k 0):=hx
    clear hx
    go_wp2_with (at_builtin; refine wpList_append_own _ rfl _ _ 41 rfl w.heap.size 3 i0 (.int .i64 0) 1 8 Tryz.underlying41 hi hz0 hz1 hz2 rfl (by decide) _ _ _ rfl (hown.out.alloc _) ⟨wr.heap.size,0,none⟩ 1 1 [.int .i64 (((c:Int) + x) % 65536)] rfl rfl (cell_new wr _ _) (fun u hu => by simp at hu; subst hu; rfl) (by omega) (by omega) (by exact hwb _) ?_)
    intro v' w3 hown' hgrow _
    have HN:Hid (w3.ownsRow w.heap.size 3 1 v' (o.length + 1) (us (o ++ [(c + x) % 65536]))∧Kept w w3):=by
     refine ⟨?_,Below.grown (hkept.out.alloc _) hgrow ((hkept.out.alloc _).size) (fun j hj => (hown.out.lt j hj).1)⟩
     rw [us_snoc,show (((c + x) % 65536:Nat):Int) = ((c:Int) + x) % 65536 by omega]; exact hown'
    clear hown' hgrow hwb
    go_wp2
    go_roundw
    case rel => exact ⟨k + 1,(c + x) / 65536,o ++ [(c + x) % 65536],by omega,by go_num,by simp,by omega,by omega,⟨by rw [List.length_append,ho.out.1]; rfl,ho.out.2.1.snoc (Nat.mod_lt _ (by decide)),sum_step HX.out (getD_out hkb).symm (by omega) ho.out.1 ho.out.2.2⟩,by rw [List.length_append]; exact HN.out.1,HN.out.2⟩
    case measure => simp [intOf]; omega
  ·
   by_cases hkb:k < b.length
   ·
    obtain ⟨bb,ob,rfl,hcapb,hcb⟩:=(HB.out.kept hkept.out).at hkb
    have hyb:=bdb.getD k
    obtain ⟨y,hy⟩:∃ y,y = b.getD k 0:=⟨_,rfl⟩
    rw [← hy] at hcb hyb
    have HY:Hid (y = b.getD k 0):=hy
    clear hy
    go_wp2_with (at_builtin; refine wpList_append_own _ rfl _ _ 41 rfl w.heap.size 3 i0 (.int .i64 0) 1 8 Tryz.underlying41 hi hz0 hz1 hz2 rfl (by decide) _ _ _ rfl (hown.out.alloc _) ⟨wr.heap.size,0,none⟩ 1 1 [.int .i64 (((c:Int) + y) % 65536)] rfl rfl (cell_new wr _ _) (fun u hu => by simp at hu; subst hu; rfl) (by omega) (by omega) (by exact hwb _) ?_)
    intro v' w3 hown' hgrow _
    have HN:Hid (w3.ownsRow w.heap.size 3 1 v' (o.length + 1) (us (o ++ [(c + y) % 65536]))∧Kept w w3):=by
     refine ⟨?_,Below.grown (hkept.out.alloc _) hgrow ((hkept.out.alloc _).size) (fun j hj => (hown.out.lt j hj).1)⟩
     rw [us_snoc,show (((c + y) % 65536:Nat):Int) = ((c:Int) + y) % 65536 by omega]; exact hown'
    clear hown' hgrow hwb
    go_wp2
    go_roundw
    case rel => exact ⟨k + 1,(c + y) / 65536,o ++ [(c + y) % 65536],by omega,by go_num,by simp,by omega,by omega,⟨by rw [List.length_append,ho.out.1]; rfl,ho.out.2.1.snoc (Nat.mod_lt _ (by decide)),sum_step (getD_out hka).symm HY.out (by omega) ho.out.1 ho.out.2.2⟩,by rw [List.length_append]; exact HN.out.1,HN.out.2⟩
    case measure => simp [intOf]; omega
   ·
    by_cases hc0:c = 0
    ·
     subst hc0
     have hnew:=Sl.kept (New.of_owns hown.out ho.out.2.1).sl (Kept.refl wr)
     have hval:=ho.out.2.2
     rw [List.take_of_length_le (by omega),List.take_of_length_le (by omega)] at hval
     have HS:Hid (Sl wr u5 o∧o.length≤max a.length b.length + 1):=⟨hnew,by rw [ho.out.1]; exact hk⟩
     have HV:Hid (D.val o = D.val a + D.val b):=by
      show D.val o = _
      simpa using hval
     clear hnew hval hwb
     go_wp2_with fail
     refine (trim_any _ HS.out.1 (by omega)).mono ?_
     rintro e w1 ⟨rfl,v',l',rfl,hn',ht',hv',hl'⟩
     have HR:Hid (Sl w1 v' l'∧D.Tr l'∧D.val l' = D.val a + D.val b∧l'.length≤max a.length b.length + 1):=⟨hn',ht',by rw [hv',HV.out],Nat.le_trans hl' HS.out.2⟩
     clear hn' ht' hv' hl'
     go_wp2
     go_ret
     exact ⟨hkept.out,v',l',rfl,HR.out⟩
    ·
     obtain rfl:c = 1:=by omega
     go_wp2_with (at_builtin; refine wpList_append_own _ rfl _ _ 41 rfl w.heap.size 3 i0 (.int .i64 0) 1 8 Tryz.underlying41 hi hz0 hz1 hz2 rfl (by decide) _ _ _ rfl (hown.out.alloc _) ⟨wr.heap.size,0,none⟩ 1 1 [.int .i64 1] rfl rfl (cell_new wr _ _) (fun u hu => by simp at hu; subst hu; rfl) (by omega) (by omega) (by exact hwb _) ?_)
     intro v' w3 hown' hgrow _
     have HN:Hid (w3.ownsRow w.heap.size 3 1 v' (o.length + 1) (us (o ++ [1]))∧Kept w w3):=by
      refine ⟨?_,Below.grown (hkept.out.alloc _) hgrow ((hkept.out.alloc _).size) (fun j hj => (hown.out.lt j hj).1)⟩
      rw [us_snoc]; exact hown'
     clear hown' hgrow hwb
     go_wp2
     go_roundw
     case rel => exact ⟨k + 1,0,o ++ [1],by omega,by go_num,rfl,by omega,by omega,⟨by rw [List.length_append,ho.out.1]; rfl,ho.out.2.1.snoc (by decide),sum_step (s:=1) (getD_out hka).symm (getD_out hkb).symm rfl ho.out.1 ho.out.2.2⟩,by rw [List.length_append]; exact HN.out.1,HN.out.2⟩
     case measure => simp [intOf]; omega
end D
end Go.Proofs.YtdcgdpbgnijnpaaGreat

namespace Go.Proofs.YtdcgdpbgnijnpaaGreat
open Go.RowKit
namespace D
theorem diff_step {a b p:List Nat} {k c x y:Nat} (hx:x = a.getD k 0) (hy:y = b.getD k 0) (hxb:x < 65536) (hyb:y < 65536) (hc:c≤1) (hp:p.length = k)
  (h:D.val (a.take k) + 65536 ^ k * c = D.val p + D.val (b.take k)) :
  D.val (a.take (k + 1)) + 65536 ^ (k + 1) * (if y + c≤x then 0 else 1) = D.val (p ++ [if y + c≤x then x - y - c else x + 65536 - y - c]) + D.val (b.take (k + 1)):=by
 rw [D.val_snoc,hp,D.take_succ_getD,D.take_succ_getD,← hx,← hy,Nat.pow_succ,Nat.mul_assoc]
 generalize 65536 ^ k = P at *
 split
 ·
  have e:P * x = P * (x - y - c) + P * y + P * c:=by rw [← Nat.mul_add,← Nat.mul_add]; congr 1; omega
  omega
 ·
  have e:P * x + P * (65536 * 1) = P * (x + 65536 - y - c) + P * y + P * c:=by rw [← Nat.mul_add,← Nat.mul_add,← Nat.mul_add]; congr 1; omega
  omega
theorem drop_pred {a b:List Nat} {k:Nat} (hk:0 < k) (hka:k≤a.length) (hl:a.length = b.length) (hd:a.drop k = b.drop k) (h:a.getD (k - 1) 0 = b.getD (k - 1) 0):a.drop (k - 1) = b.drop (k - 1):=by
 rw [List.drop_eq_getElem_cons (l:=a) (i:=k - 1) (by omega),List.drop_eq_getElem_cons (l:=b) (i:=k - 1) (by omega),show k - 1 + 1 = k by omega,hd]
 rw [List.getD_eq_getElem?_getD,List.getD_eq_getElem?_getD,List.getElem?_eq_getElem (by omega),List.getElem?_eq_getElem (by omega)] at h
 simp at h
 rw [h]
set_option maxHeartbeats 1000000 in
theorem mags_any (va vb:Value) (a b:List Nat) (w:World) (ha:Sl w va a) (hb:Sl w vb b) (_hla:a.length≤5000000) (hlb:b.length≤5000000) (ta:D.Tr a) (tb:D.Tr b) :
  Calls Tryz.prog 108 #[va,vb] w fun e w' => e = .returned (.int .i64 (sgn (D.val a) (D.val b)))∧∃ n,w' = w.drewN n:=by
 obtain ⟨bda,aoa,capa,rfl,hxa⟩:=ha
 obtain ⟨bdb,aob,capb,rfl,hxb⟩:=hb
 rcases Nat.lt_trichotomy a.length b.length with hl | hl | hl
 ·
  have e:sgn (D.val a) (D.val b) = -1:=by unfold sgn; rw [if_pos (val_lt_of_len bda tb hl)]
  rw [e]
  clear hxa hxb e
  go_enter Tryz.func108,Tryz.ntmps108
  go_wp2
  go_ret
  exact ⟨rfl,0,rfl⟩
 ·
  obtain ⟨n,hn⟩:∃ n,n = a.length:=⟨_,rfl⟩
  have hn2:n = b.length:=by omega
  rw [← hn] at hxa _hla ⊢
  rw [← hn2] at hxb hlb ⊢
  have HA:Hid (_):=hxa
  have HB:Hid (_):=hxb
  have HN:Hid (n = a.length∧n = b.length):=⟨hn,hn2⟩
  obtain ⟨r,hr⟩:∃ r,r = sgn (D.val a) (D.val b):=⟨_,rfl⟩
  rw [← hr]
  have HR:Hid (r = sgn (D.val a) (D.val b)):=hr
  clear hxa hxb hn hn2 hl ta tb hr
  go_enter Tryz.func108,Tryz.ntmps108
  go_wp2
  go_loopw [5] (fun vi wr => ∃ k m:Nat,k≤n∧vi = .int .i64 ((k:Int) - 1)∧Hid (a.drop k = b.drop k)∧wr = w.drewN m) (fun vi _ => (intOf vi + 1).toNat)
  case atStart => exact ⟨n,0,Nat.le_refl _,rfl,by show a.drop n = b.drop n; rw [List.drop_of_length_le (by rw [HN.out.1]; exact Nat.le_refl _),List.drop_of_length_le (by rw [HN.out.2]; exact Nat.le_refl _)],rfl⟩
  case round =>
   obtain ⟨k,m,hk,rfl,hd,rfl⟩:=hrel
   by_cases h0:k = 0
   ·
    subst h0
    go_wp2
    go_ret
    refine ⟨?_,m,rfl⟩
    have e:a = b:=by simpa using hd.out
    rw [HR.out,e]; simp [sgn]
   ·
    obtain ⟨_,ba,oa,rfl,_,hca⟩:=HA.out (by omega)
    obtain ⟨_,bb,ob,rfl,_,hcb⟩:=HB.out (by omega)
    have hca:=hca (k - 1) (by omega)
    have hcb:=hcb (k - 1) (by omega)
    have hba:=bda.getD (k - 1)
    have hbb:=bdb.getD (k - 1)
    obtain ⟨x,hx⟩:∃ x,x = a.getD (k - 1) 0:=⟨_,rfl⟩
    obtain ⟨y,hy⟩:∃ y,y = b.getD (k - 1) 0:=⟨_,rfl⟩
    rw [← hx] at hca hba
    rw [← hy] at hcb hbb
    have HX:Hid (x = a.getD (k - 1) 0):=hx
    have HY:Hid (y = b.getD (k - 1) 0):=hy
    clear hx hy HA HB
    have h1:1≤k:=by omega
    rcases Nat.lt_trichotomy x y with hxy | hxy | hxy
    ·
     go_wp2
     go_quiet (fail)
     go_wp2
     go_ret
     refine ⟨ret_i64 ?_,_,by rw [World.drewN_drewN]⟩
     rw [HR.out,sgn,if_pos (val_lt_of_top bda h1 (by rw [← HN.out.1]; exact hk) (by rw [← HN.out.1,← HN.out.2]) hd.out (by rw [← HX.out,← HY.out]; exact hxy))]
    ·
     subst hxy
     go_wp2
     go_quiet (fail)
     go_wp2
     go_quiet (fail)
     go_wp2
     go_roundw
     case rel => exact ⟨k - 1,_,by omega,by go_num,drop_pred h1 (by rw [← HN.out.1]; exact hk) (by rw [← HN.out.1,← HN.out.2]) hd.out (by rw [← HX.out,← HY.out]),rfl⟩
     case measure => simp [intOf]; omega
    ·
     go_wp2
     go_quiet (fail)
     go_wp2
     go_quiet (fail)
     go_wp2
     go_ret
     refine ⟨ret_i64 ?_,_,by rw [World.drewN_drewN,World.drewN_drewN]⟩
     have h2:=val_lt_of_top bdb h1 (by rw [← HN.out.2]; exact hk) (by rw [← HN.out.1,← HN.out.2]) hd.out.symm (by rw [← HX.out,← HY.out]; exact hxy)
     rw [HR.out,sgn,if_neg (by omega),if_neg (by omega)]
 ·
  have e:sgn (D.val a) (D.val b) = 1:=by have:=val_lt_of_len bdb ta hl; unfold sgn; rw [if_neg (by omega),if_neg (by omega)]
  rw [e]
  clear hxa hxb e
  go_enter Tryz.func108,Tryz.ntmps108
  go_wp2
  go_ret
  exact ⟨rfl,0,rfl⟩
set_option maxRecDepth 100000 in
set_option maxHeartbeats 2000000 in
theorem minus_new (va vb:Value) (a b:List Nat) (w:World) (ha:Sl w va a) (hb:Sl w vb b) (hla:a.length≤5000000) (hle:D.val b≤D.val a) (hlen:b.length≤a.length) :
  Calls Tryz.prog 89 #[va,vb] w fun e w' => Kept w w'∧∃ v' l',e = .returned v'∧NewE w.heap.size w' v' l'∧D.Tr l'∧D.val l' = D.val a - D.val b∧l'.length≤a.length:=by
 have HA:Hid (Sl w va a):=ha
 have HB:Hid (Sl w vb b):=hb
 have HLE:Hid (D.val b≤D.val a∧b.length≤a.length):=⟨hle,hlen⟩
 obtain ⟨bda,aoa,capa,rfl,_⟩:=ha
 obtain ⟨bdb,aob,capb,rfl,_⟩:=hb
 obtain ⟨i0,hi,hz0,hz1,hz2⟩:=info_parts infoI
 clear hle hlen
 go_enter Tryz.func89,Tryz.ntmps89
 go_wp2
 go_loopw [5,6,7] (fun vd vc vi wr => ∃ (k c:Nat) (o:List Nat),c≤1∧vi = .int .i64 k∧vc = .int .i64 c∧k≤a.length∧Hid (o.length = k∧D.Bd o∧D.val (a.take k) + 65536 ^ k * c = D.val o + D.val (b.take k)) ∧
   Hid (wr.ownsRow w.heap.size 3 1 vd o.length (us o))∧Hid (Kept w wr)) (fun _ _ vi _ => a.length - (intOf vi).toNat)
 case atStart => exact ⟨0,0,[],by omega,rfl,rfl,by omega,⟨rfl,D.Bd_nil,by simp [D.val]⟩,World.ownsRow_nil _ _ _ _,Kept.refl w⟩
 case round =>
  obtain ⟨k,c,o,hc,rfl,rfl,hk,ho,hown,hkept⟩:=hrel
  have hwb:∀ x,w.heap.size≤(wr.alloc x).heap.size:=fun x => by have:=hkept.out.size; simp; omega
  have hml:o.length + 1≤maxLen:=by rw [ho.out.1]; unfold maxLen; omega
  have hol:o.length≤20000002:=by rw [ho.out.1]; omega
  by_cases hka:k < a.length
  ·
   obtain ⟨ba,oa,rfl,hcapa,hca⟩:=(HA.out.kept hkept.out).at hka
   have hxb:=bda.getD k
   obtain ⟨x,hx⟩:∃ x,x = a.getD k 0:=⟨_,rfl⟩
   rw [← hx] at hca hxb
   have HX:Hid (x = a.getD k 0):=hx
   clear hx
   by_cases hkb:k < b.length
   ·
    obtain ⟨bb,ob,rfl,hcapb,hcb⟩:=(HB.out.kept hkept.out).at hkb
    have hyb:=bdb.getD k
    obtain ⟨y,hy⟩:∃ y,y = b.getD k 0:=⟨_,rfl⟩
    rw [← hy] at hcb hyb
    have HY:Hid (y = b.getD k 0):=hy
    clear hy
    by_cases hs:y + c≤x
    ·
     go_wp2_with (at_builtin; refine wpList_append_own _ rfl _ _ 41 rfl w.heap.size 3 i0 (.int .i64 0) 1 8 Tryz.underlying41 hi hz0 hz1 hz2 rfl (by decide) _ _ _ rfl (hown.out.alloc _) ⟨wr.heap.size,0,none⟩ 1 1 [.int .i64 ((x:Int) - c - y)] rfl rfl (cell_new wr _ _) (fun u hu => by simp at hu; subst hu; rfl) (by omega) (by omega) (by exact hwb _) ?_)
     intro v' w3 hown' hgrow _
     have HN:Hid (w3.ownsRow w.heap.size 3 1 v' (o.length + 1) (us (o ++ [x - y - c]))∧Kept w w3):=by
      refine ⟨?_,Below.grown (hkept.out.alloc _) hgrow ((hkept.out.alloc _).size) (fun j hj => (hown.out.lt j hj).1)⟩
      rw [us_snoc,show ((x - y - c:Nat):Int) = (x:Int) - c - y by omega]; exact hown'
     clear hown' hgrow hwb
     go_wp2
     go_roundw
     case rel =>
      have hst:=diff_step (y:=y) HX.out HY.out hxb (by omega) hc ho.out.1 ho.out.2.2
      rw [if_pos (show y + c≤x by omega),if_pos (show y + c≤x by omega)] at hst
      exact ⟨k + 1,0,o ++ [x - y - c],by omega,by go_num,rfl,by omega,⟨by rw [List.length_append,ho.out.1]; rfl,ho.out.2.1.snoc (by omega),hst⟩,by rw [List.length_append]; exact HN.out.1,HN.out.2⟩
     case measure => simp [intOf]; omega
    ·
     go_wp2_with (at_builtin; refine wpList_append_own _ rfl _ _ 41 rfl w.heap.size 3 i0 (.int .i64 0) 1 8 Tryz.underlying41 hi hz0 hz1 hz2 rfl (by decide) _ _ _ rfl (hown.out.alloc _) ⟨wr.heap.size,0,none⟩ 1 1 [.int .i64 ((x:Int) - c - y + 65536)] rfl rfl (cell_new wr _ _) (fun u hu => by simp at hu; subst hu; rfl) (by omega) (by omega) (by exact hwb _) ?_)
     intro v' w3 hown' hgrow _
     have HN:Hid (w3.ownsRow w.heap.size 3 1 v' (o.length + 1) (us (o ++ [x + 65536 - y - c]))∧Kept w w3):=by
      refine ⟨?_,Below.grown (hkept.out.alloc _) hgrow ((hkept.out.alloc _).size) (fun j hj => (hown.out.lt j hj).1)⟩
      rw [us_snoc,show ((x + 65536 - y - c:Nat):Int) = (x:Int) - c - y + 65536 by omega]; exact hown'
     clear hown' hgrow hwb
     go_wp2
     go_roundw
     case rel =>
      have hst:=diff_step (y:=y) HX.out HY.out hxb (by omega) hc ho.out.1 ho.out.2.2
      rw [if_neg (show ¬ y + c≤x by omega),if_neg (show ¬ y + c≤x by omega)] at hst
      exact ⟨k + 1,1,o ++ [x + 65536 - y - c],by omega,by go_num,rfl,by omega,⟨by rw [List.length_append,ho.out.1]; rfl,ho.out.2.1.snoc (by omega),hst⟩,by rw [List.length_append]; exact HN.out.1,HN.out.2⟩
     case measure => simp [intOf]; omega
   ·
    by_cases hs:0 + c≤x
    ·
     go_wp2_with (at_builtin; refine wpList_append_own _ rfl _ _ 41 rfl w.heap.size 3 i0 (.int .i64 0) 1 8 Tryz.underlying41 hi hz0 hz1 hz2 rfl (by decide) _ _ _ rfl (hown.out.alloc _) ⟨wr.heap.size,0,none⟩ 1 1 [.int .i64 ((x:Int) - c)] rfl rfl (cell_new wr _ _) (fun u hu => by simp at hu; subst hu; rfl) (by omega) (by omega) (by exact hwb _) ?_)
     intro v' w3 hown' hgrow _
     have HN:Hid (w3.ownsRow w.heap.size 3 1 v' (o.length + 1) (us (o ++ [x - 0 - c]))∧Kept w w3):=by
      refine ⟨?_,Below.grown (hkept.out.alloc _) hgrow ((hkept.out.alloc _).size) (fun j hj => (hown.out.lt j hj).1)⟩
      rw [us_snoc,show ((x - 0 - c:Nat):Int) = (x:Int) - c by omega]; exact hown'
     clear hown' hgrow hwb
     go_wp2
     go_roundw
     case rel =>
      have hst:=diff_step (y:=0) HX.out (getD_out hkb).symm hxb (by omega) hc ho.out.1 ho.out.2.2
      rw [if_pos (show 0 + c≤x by omega),if_pos (show 0 + c≤x by omega)] at hst
      exact ⟨k + 1,0,o ++ [x - 0 - c],by omega,by go_num,rfl,by omega,⟨by rw [List.length_append,ho.out.1]; rfl,ho.out.2.1.snoc (by omega),hst⟩,by rw [List.length_append]; exact HN.out.1,HN.out.2⟩
     case measure => simp [intOf]; omega
    ·
     go_wp2_with (at_builtin; refine wpList_append_own _ rfl _ _ 41 rfl w.heap.size 3 i0 (.int .i64 0) 1 8 Tryz.underlying41 hi hz0 hz1 hz2 rfl (by decide) _ _ _ rfl (hown.out.alloc _) ⟨wr.heap.size,0,none⟩ 1 1 [.int .i64 ((x:Int) - c + 65536)] rfl rfl (cell_new wr _ _) (fun u hu => by simp at hu; subst hu; rfl) (by omega) (by omega) (by exact hwb _) ?_)
     intro v' w3 hown' hgrow _
     have HN:Hid (w3.ownsRow w.heap.size 3 1 v' (o.length + 1) (us (o ++ [x + 65536 - 0 - c]))∧Kept w w3):=by
      refine ⟨?_,Below.grown (hkept.out.alloc _) hgrow ((hkept.out.alloc _).size) (fun j hj => (hown.out.lt j hj).1)⟩
      rw [us_snoc,show ((x + 65536 - 0 - c:Nat):Int) = (x:Int) - c + 65536 by omega]; exact hown'
     clear hown' hgrow hwb
     go_wp2
     go_roundw
     case rel =>
      have hst:=diff_step (y:=0) HX.out (getD_out hkb).symm hxb (by omega) hc ho.out.1 ho.out.2.2
      rw [if_neg (show ¬ 0 + c≤x by omega),if_neg (show ¬ 0 + c≤x by omega)] at hst
      exact ⟨k + 1,1,o ++ [x + 65536 - 0 - c],by omega,by go_num,rfl,by omega,⟨by rw [List.length_append,ho.out.1]; rfl,ho.out.2.1.snoc (by omega),hst⟩,by rw [List.length_append]; exact HN.out.1,HN.out.2⟩
     case measure => simp [intOf]; omega
  ·
   obtain rfl:k = a.length:=by omega
   have hval:=ho.out.2.2
   rw [List.take_length,List.take_of_length_le HLE.out.2] at hval
   have hlt2:=D.val_lt ho.out.2.1
   rw [ho.out.1] at hlt2
   have hc0:c = 0:=by
    have hcv:=HLE.out.1
    rcases Nat.lt_or_ge 0 c with h | h
    ·
     have e:c = 1:=by omega
     rw [e] at hval
     omega
    ·
     omega
   rw [hc0] at hval
   have HS:Hid (New w.heap.size wr u5 o∧o.length≤a.length):=⟨New.of_owns hown.out ho.out.2.1,by rw [ho.out.1]; exact Nat.le_refl _⟩
   have HV:Hid (D.val a = D.val o + D.val b):=by
    show D.val a = _
    simpa using hval
   clear hval hlt2 hwb hc0
   go_wp2_with fail
   refine (trim_newE _ HS.out.1 (by omega)).mono ?_
   rintro e w1 ⟨rfl,v',l',rfl,hn',ht',hv',hl'⟩
   have HR:Hid (NewE w.heap.size w1 v' l'∧D.Tr l'∧D.val l' = D.val a - D.val b∧l'.length≤a.length):=⟨hn',ht',by rw [hv',HV.out]; omega,Nat.le_trans hl' HS.out.2⟩
   clear hn' ht' hv' hl'
   go_wp2
   go_ret
   exact ⟨hkept.out,v',l',rfl,HR.out⟩
theorem minus_any (va vb:Value) (a b:List Nat) (w:World) (ha:Sl w va a) (hb:Sl w vb b) (hla:a.length≤5000000) (hle:D.val b≤D.val a) (hlen:b.length≤a.length) :
  Calls Tryz.prog 89 #[va,vb] w fun e w' => Kept w w'∧∃ v' l',e = .returned v'∧Sl w' v' l'∧D.Tr l'∧D.val l' = D.val a - D.val b∧l'.length≤a.length:=by
 refine (minus_new va vb a b w ha hb hla hle hlen).mono ?_
 rintro e w' ⟨h1,v',l',h2,h3,h4⟩
 exact ⟨h1,v',l',h2,h3.1,h4⟩
end D
end Go.Proofs.YtdcgdpbgnijnpaaGreat

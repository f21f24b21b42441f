/- Lemmas. -/
import Derived.Test.YthfbfbfambbkaaaGreatDoorGac
import Derived.Deep.LoopGhost
namespace Go.Proofs.YthfbfbfambbkaaaGreatDoor
open Go.RowKit
namespace D
theorem sum_step {a b p:List Nat} {k c x y s:Nat} (hx:x = a.getD k 0) (hy:y = b.getD k 0) (hs:s = c + x + y) (hp:p.length = k)
  (h:D.val p + 65536 ^ k * c = D.val (a.take k) + D.val (b.take k)) :
  D.val (p ++ [s % 65536]) + 65536 ^ (k + 1) * (s / 65536) = D.val (a.take (k + 1)) + D.val (b.take (k + 1)):=by
 rw [D.val_snoc,hp,D.take_succ_getD,D.take_succ_getD,<- hx,<- hy,Nat.pow_succ,Nat.mul_assoc]
 have e:65536 ^ k * (s % 65536) + 65536 ^ k * (65536 * (s / 65536)) = 65536 ^ k * s:=by
  rw [<- Nat.mul_add]; congr 1; omega
 have e2:65536 ^ k * s = 65536 ^ k * c + 65536 ^ k * x + 65536 ^ k * y:=by rw [hs,Nat.mul_add,Nat.mul_add]
 omega
theorem getD_out {l:List Nat} {k:Nat} (h:¬ k < l.length):l.getD k 0 = 0:=by
 rw [List.getD_eq_getElem?_getD,List.getElem?_eq_none (by omega)]; rfl
theorem Sl.at {w:World} {ao:Option Addr} {cap:Nat} {l:List Nat} (h:Sl w (.slice ao l.length cap) l) {k:Nat} (hk:k < l.length):∃ b off:Nat,ao = some ⟨b,off,none⟩/\l.length<=cap/\w.cell? ⟨b,off + k,none⟩ = some (.int .i64 ((l.getD k 0:Nat):Int)):=by
 obtain ⟨_,ao',cap',hv,hx⟩:=h
 simp only [Value.slice.injEq,true_and] at hv
 obtain ⟨rfl,rfl⟩:=hv
 obtain ⟨h1,b,off,e,_,hc⟩:=hx (by omega)
 exact ⟨b,off,e,h1,hc k hk⟩
set_option maxRecDepth 100000 in
set_option maxHeartbeats 2000000 in
theorem plus_any (va vb:Value) (a b:List Nat) (w:World) (ha:Sl w va a) (hb:Sl w vb b) (hla:a.length<=5000) (hlb:b.length<=5000) :
  Calls Tryz.prog 143 #[va,vb] w fun e w' => Kept w w'/\∃ v' l',e = .returned v'/\Sl w' v' l'/\D.Tr l'/\D.val l' = D.val a + D.val b/\l'.length<=max a.length b.length + 1:=by
 have HA:Hid (Sl w va a):=ha
 have HB:Hid (Sl w vb b):=hb
 obtain ⟨bda,aoa,capa,rfl,_⟩:=ha
 obtain ⟨bdb,aob,capb,rfl,_⟩:=hb
 obtain ⟨i0,hi,hz0,hz1,hz2⟩:=info_parts infoI
 go_enter Tryz.func143,Tryz.ntmps143
 go_wp2
 go_loopw [5,6,7] (fun vd vc vi wr => ∃ (k c:Nat) (o:List Nat),c<=1/\vi = .int .i64 k/\vc = .int .i64 c/\k<=max a.length b.length + 1/\(k = max a.length b.length + 1->c = 0)/\Hid (o.length = k/\D.Bd o/\D.val o + 65536 ^ k * c = D.val (a.take k) + D.val (b.take k)) /\
   Hid (wr.ownsRow w.heap.size 3 1 vd o.length (us o))/\Hid (Kept w wr)) (fun _ _ vi _ => a.length + b.length + 2 - (intOf vi).toNat)
 case atStart => exact ⟨0,0,[],by omega,rfl,rfl,by omega,fun _ => rfl,⟨rfl,D.Bd_nil,by simp [D.val]⟩,World.ownsRow_nil _ _ _ _,Kept.refl w⟩
 case round =>
  obtain ⟨k,c,o,hc,rfl,rfl,hk,hkc,ho,hown,hkept⟩:=hrel
  have hwb:∀ x,w.heap.size<=(wr.alloc x).heap.size:=fun x => by have:=hkept.out.size; simp; omega
  have hml:o.length + 1<=maxLen:=by rw [ho.out.1]; unfold maxLen; omega
  have hol:o.length<=10002:=by rw [ho.out.1]; omega
  by_cases hka:k < a.length
  ·
   by_cases hkb:k < b.length
   ·
    obtain ⟨ba,oa,rfl,hcapa,hca⟩:=(HA.out.kept hkept.out).at hka
    have hxb:=bda.getD k
    obtain ⟨x,hx⟩:∃ x,x = a.getD k 0:=⟨_,rfl⟩
    rw [<- hx] at hca hxb
    have HX:Hid (x = a.getD k 0):=hx
    clear hx
    obtain ⟨bb,ob,rfl,hcapb,hcb⟩:=(HB.out.kept hkept.out).at hkb
    have hyb:=bdb.getD k
    obtain ⟨y,hy⟩:∃ y,y = b.getD k 0:=⟨_,rfl⟩
    rw [<- hy] at hcb hyb
    have HY:Hid (y = b.getD k 0):=hy
    clear hy
    go_wp2_with (at_builtin; refine wpList_append_own _ rfl _ _ 69 rfl w.heap.size 3 i0 (.int .i64 0) 1 8 Tryz.underlying69 hi hz0 hz1 hz2 rfl (by decide) _ _ _ rfl (hown.out.alloc _) ⟨wr.heap.size,0,none⟩ 1 1 [.int .i64 (((c:Int) + x + y) % 65536)] rfl rfl (cell_new wr _ _) (fun u hu => by simp at hu; subst hu; rfl) (by omega) (by omega) (by exact hwb _) ?_)
    intro v' w3 hown' hgrow _
    have HN:Hid (w3.ownsRow w.heap.size 3 1 v' (o.length + 1) (us (o ++ [(c + x + y) % 65536]))/\Kept w w3):=by
     refine ⟨?_,Below.grown (hkept.out.alloc _) hgrow ((hkept.out.alloc _).size) (fun j hj => (hown.out.lt j hj).1)⟩
     rw [us_snoc,show (((c + x + y) % 65536:Nat):Int) = ((c:Int) + x + y) % 65536 by omega]; exact hown'
    clear hown' hgrow hwb
    go_wp2
    go_roundw
    case rel => exact ⟨k + 1,(c + x + y) / 65536,o ++ [(c + x + y) % 65536],by omega,by go_num,by simp,by omega,by omega,⟨by rw [List.length_append,ho.out.1]; rfl,ho.out.2.1.snoc (Nat.mod_lt _ (by decide)),sum_step HX.out HY.out (by omega) ho.out.1 ho.out.2.2⟩,by rw [List.length_append]; exact HN.out.1,HN.out.2⟩
    case measure => simp [intOf]; omega
   ·
    obtain ⟨ba,oa,rfl,hcapa,hca⟩:=(HA.out.kept hkept.out).at hka
    have hxb:=bda.getD k
    obtain ⟨x,hx⟩:∃ x,x = a.getD k 0:=⟨_,rfl⟩
    rw [<- hx] at hca hxb
    have HX:Hid (x = a.getD k 0):=hx
    clear hx
    go_wp2_with (at_builtin; refine wpList_append_own _ rfl _ _ 69 rfl w.heap.size 3 i0 (.int .i64 0) 1 8 Tryz.underlying69 hi hz0 hz1 hz2 rfl (by decide) _ _ _ rfl (hown.out.alloc _) ⟨wr.heap.size,0,none⟩ 1 1 [.int .i64 (((c:Int) + x) % 65536)] rfl rfl (cell_new wr _ _) (fun u hu => by simp at hu; subst hu; rfl) (by omega) (by omega) (by exact hwb _) ?_)
    intro v' w3 hown' hgrow _
    have HN:Hid (w3.ownsRow w.heap.size 3 1 v' (o.length + 1) (us (o ++ [(c + x) % 65536]))/\Kept w w3):=by
     refine ⟨?_,Below.grown (hkept.out.alloc _) hgrow ((hkept.out.alloc _).size) (fun j hj => (hown.out.lt j hj).1)⟩
     rw [us_snoc,show (((c + x) % 65536:Nat):Int) = ((c:Int) + x) % 65536 by omega]; exact hown'
    clear hown' hgrow hwb
    go_wp2
    go_roundw
    case rel => exact ⟨k + 1,(c + x) / 65536,o ++ [(c + x) % 65536],by omega,by go_num,by simp,by omega,by omega,⟨by rw [List.length_append,ho.out.1]; rfl,ho.out.2.1.snoc (Nat.mod_lt _ (by decide)),sum_step HX.out (getD_out hkb).symm (by omega) ho.out.1 ho.out.2.2⟩,by rw [List.length_append]; exact HN.out.1,HN.out.2⟩
    case measure => simp [intOf]; omega
  ·
   by_cases hkb:k < b.length
   ·
    obtain ⟨bb,ob,rfl,hcapb,hcb⟩:=(HB.out.kept hkept.out).at hkb
    have hyb:=bdb.getD k
    obtain ⟨y,hy⟩:∃ y,y = b.getD k 0:=⟨_,rfl⟩
    rw [<- hy] at hcb hyb
    have HY:Hid (y = b.getD k 0):=hy
    clear hy
    go_wp2_with (at_builtin; refine wpList_append_own _ rfl _ _ 69 rfl w.heap.size 3 i0 (.int .i64 0) 1 8 Tryz.underlying69 hi hz0 hz1 hz2 rfl (by decide) _ _ _ rfl (hown.out.alloc _) ⟨wr.heap.size,0,none⟩ 1 1 [.int .i64 (((c:Int) + y) % 65536)] rfl rfl (cell_new wr _ _) (fun u hu => by simp at hu; subst hu; rfl) (by omega) (by omega) (by exact hwb _) ?_)
    intro v' w3 hown' hgrow _
    have HN:Hid (w3.ownsRow w.heap.size 3 1 v' (o.length + 1) (us (o ++ [(c + y) % 65536]))/\Kept w w3):=by
     refine ⟨?_,Below.grown (hkept.out.alloc _) hgrow ((hkept.out.alloc _).size) (fun j hj => (hown.out.lt j hj).1)⟩
     rw [us_snoc,show (((c + y) % 65536:Nat):Int) = ((c:Int) + y) % 65536 by omega]; exact hown'
    clear hown' hgrow hwb
    go_wp2
    go_roundw
    case rel => exact ⟨k + 1,(c + y) / 65536,o ++ [(c + y) % 65536],by omega,by go_num,by simp,by omega,by omega,⟨by rw [List.length_append,ho.out.1]; rfl,ho.out.2.1.snoc (Nat.mod_lt _ (by decide)),sum_step (getD_out hka).symm HY.out (by omega) ho.out.1 ho.out.2.2⟩,by rw [List.length_append]; exact HN.out.1,HN.out.2⟩
    case measure => simp [intOf]; omega
   ·
    by_cases hc0:c = 0
    ·
     subst hc0
     have hnew:=Sl.kept (New.of_owns hown.out ho.out.2.1).sl (Kept.refl wr)
     have hval:=ho.out.2.2
     rw [List.take_of_length_le (by omega),List.take_of_length_le (by omega)] at hval
     have HS:Hid (Sl wr u5 o/\o.length<=max a.length b.length + 1):=⟨hnew,by rw [ho.out.1]; exact hk⟩
     have HV:Hid (D.val o = D.val a + D.val b):=by
      show D.val o = _
      simpa using hval
     clear hnew hval hwb
     go_wp2_with fail
     refine (trim_any _ HS.out.1 (by omega)).mono ?_
     rintro e w1 ⟨rfl,v',l',rfl,hn',ht',hv',hl'⟩
     have HR:Hid (Sl w1 v' l'/\D.Tr l'/\D.val l' = D.val a + D.val b/\l'.length<=max a.length b.length + 1):=⟨hn',ht',by rw [hv',HV.out],Nat.le_trans hl' HS.out.2⟩
     clear hn' ht' hv' hl'
     go_wp2
     go_ret
     exact ⟨hkept.out,v',l',rfl,HR.out⟩
    ·
     obtain rfl:c = 1:=by omega
     go_wp2_with (at_builtin; refine wpList_append_own _ rfl _ _ 69 rfl w.heap.size 3 i0 (.int .i64 0) 1 8 Tryz.underlying69 hi hz0 hz1 hz2 rfl (by decide) _ _ _ rfl (hown.out.alloc _) ⟨wr.heap.size,0,none⟩ 1 1 [.int .i64 1] rfl rfl (cell_new wr _ _) (fun u hu => by simp at hu; subst hu; rfl) (by omega) (by omega) (by exact hwb _) ?_)
     intro v' w3 hown' hgrow _
     have HN:Hid (w3.ownsRow w.heap.size 3 1 v' (o.length + 1) (us (o ++ [1]))/\Kept w w3):=by
      refine ⟨?_,Below.grown (hkept.out.alloc _) hgrow ((hkept.out.alloc _).size) (fun j hj => (hown.out.lt j hj).1)⟩
      rw [us_snoc]; exact hown'
     clear hown' hgrow hwb
     go_wp2
     go_roundw
     case rel => exact ⟨k + 1,0,o ++ [1],by omega,by go_num,rfl,by omega,by omega,⟨by rw [List.length_append,ho.out.1]; rfl,ho.out.2.1.snoc (by decide),sum_step (s:=1) (getD_out hka).symm (getD_out hkb).symm rfl ho.out.1 ho.out.2.2⟩,by rw [List.length_append]; exact HN.out.1,HN.out.2⟩
     case measure => simp [intOf]; omega
theorem diff_step {a b p:List Nat} {k c x y:Nat} (hx:x = a.getD k 0) (hy:y = b.getD k 0) (hxb:x < 65536) (hyb:y < 65536) (hc:c<=1) (hp:p.length = k)
  (h:D.val (a.take k) + 65536 ^ k * c = D.val p + D.val (b.take k)) :
  D.val (a.take (k + 1)) + 65536 ^ (k + 1) * (if y + c<=x then 0 else 1) = D.val (p ++ [if y + c<=x then x - y - c else x + 65536 - y - c]) + D.val (b.take (k + 1)):=by
 rw [D.val_snoc,hp,D.take_succ_getD,D.take_succ_getD,<- hx,<- hy,Nat.pow_succ,Nat.mul_assoc]
 generalize 65536 ^ k = P at *
 split
 ·
  have e:P * x = P * (x - y - c) + P * y + P * c:=by rw [<- Nat.mul_add,<- Nat.mul_add]; congr 1; omega
  omega
 ·
  have e:P * x + P * (65536 * 1) = P * (x + 65536 - y - c) + P * y + P * c:=by rw [<- Nat.mul_add,<- Nat.mul_add,<- Nat.mul_add]; congr 1; omega
  omega
theorem drop_pred {a b:List Nat} {k:Nat} (hk:0 < k) (hka:k<=a.length) (hl:a.length = b.length) (hd:a.drop k = b.drop k) (h:a.getD (k - 1) 0 = b.getD (k - 1) 0):a.drop (k - 1) = b.drop (k - 1):=by
 rw [List.drop_eq_getElem_cons (l:=a) (i:=k - 1) (by omega),List.drop_eq_getElem_cons (l:=b) (i:=k - 1) (by omega),show k - 1 + 1 = k by omega,hd]
 rw [List.getD_eq_getElem?_getD,List.getD_eq_getElem?_getD,List.getElem?_eq_getElem (by omega),List.getElem?_eq_getElem (by omega)] at h
 simp at h
 rw [h]
set_option maxHeartbeats 1000000 in
theorem mags_any (va vb:Value) (a b:List Nat) (w:World) (ha:Sl w va a) (hb:Sl w vb b) (_hla:a.length<=5000) (hlb:b.length<=5000) (ta:D.Tr a) (tb:D.Tr b) :
  Calls Tryz.prog 144 #[va,vb] w fun e w' => e = .returned (.int .i64 (sgn (D.val a) (D.val b)))/\∃ n,w' = w.drewN n:=by
 obtain ⟨bda,aoa,capa,rfl,hxa⟩:=ha
 obtain ⟨bdb,aob,capb,rfl,hxb⟩:=hb
 rcases Nat.lt_trichotomy a.length b.length with hl | hl | hl
 ·
  have e:sgn (D.val a) (D.val b) = -1:=by unfold sgn; rw [if_pos (val_lt_of_len bda tb hl)]
  rw [e]
  clear hxa hxb e
  go_enter Tryz.func144,Tryz.ntmps144
  go_wp2
  go_ret
  exact ⟨rfl,0,rfl⟩
 ·
  obtain ⟨n,hn⟩:∃ n,n = a.length:=⟨_,rfl⟩
  have hn2:n = b.length:=by omega
  rw [<- hn] at hxa _hla ⊢
  rw [<- hn2] at hxb hlb ⊢
  have HA:Hid (_):=hxa
  have HB:Hid (_):=hxb
  have HN:Hid (n = a.length/\n = b.length):=⟨hn,hn2⟩
  obtain ⟨r,hr⟩:∃ r,r = sgn (D.val a) (D.val b):=⟨_,rfl⟩
  rw [<- hr]
  have HR:Hid (r = sgn (D.val a) (D.val b)):=hr
  clear hxa hxb hn hn2 hl ta tb hr
  go_enter Tryz.func144,Tryz.ntmps144
  go_wp2
  go_loopw [5] (fun vi wr => ∃ k m:Nat,k<=n/\vi = .int .i64 ((k:Int) - 1)/\Hid (a.drop k = b.drop k)/\wr = w.drewN m) (fun vi _ => (intOf vi + 1).toNat)
  case atStart => exact ⟨n,0,Nat.le_refl _,rfl,by show a.drop n = b.drop n; rw [List.drop_of_length_le (by rw [HN.out.1]; exact Nat.le_refl _),List.drop_of_length_le (by rw [HN.out.2]; exact Nat.le_refl _)],rfl⟩
  case round =>
   obtain ⟨k,m,hk,rfl,hd,rfl⟩:=hrel
   by_cases h0:k = 0
   ·
    subst h0
    go_wp2
    go_ret
    refine ⟨?_,m,rfl⟩
    have e:a = b:=by simpa using hd.out
    rw [HR.out,e]; simp [sgn]
   ·
    obtain ⟨_,ba,oa,rfl,_,hca⟩:=HA.out (by omega)
    obtain ⟨_,bb,ob,rfl,_,hcb⟩:=HB.out (by omega)
    have hca:=hca (k - 1) (by omega)
    have hcb:=hcb (k - 1) (by omega)
    have hba:=bda.getD (k - 1)
    have hbb:=bdb.getD (k - 1)
    obtain ⟨x,hx⟩:∃ x,x = a.getD (k - 1) 0:=⟨_,rfl⟩
    obtain ⟨y,hy⟩:∃ y,y = b.getD (k - 1) 0:=⟨_,rfl⟩
    rw [<- hx] at hca hba
    rw [<- hy] at hcb hbb
    have HX:Hid (x = a.getD (k - 1) 0):=hx
    have HY:Hid (y = b.getD (k - 1) 0):=hy
    clear hx hy HA HB
    have h1:1<=k:=by omega
    rcases Nat.lt_trichotomy x y with hxy | hxy | hxy
    ·
     go_wp2
     go_quiet (fail)
     go_wp2
     go_ret
     refine ⟨ret_i64 ?_,_,by rw [World.drewN_drewN]⟩
     rw [HR.out,sgn,if_pos (val_lt_of_top bda h1 (by rw [<- HN.out.1]; exact hk) (by rw [<- HN.out.1,<- HN.out.2]) hd.out (by rw [<- HX.out,<- HY.out]; exact hxy))]
    ·
     subst hxy
     go_wp2
     go_quiet (fail)
     go_wp2
     go_quiet (fail)
     go_wp2
     go_roundw
     case rel => exact ⟨k - 1,_,by omega,by go_num,drop_pred h1 (by rw [<- HN.out.1]; exact hk) (by rw [<- HN.out.1,<- HN.out.2]) hd.out (by rw [<- HX.out,<- HY.out]),rfl⟩
     case measure => simp [intOf]; omega
    ·
     go_wp2
     go_quiet (fail)
     go_wp2
     go_quiet (fail)
     go_wp2
     go_ret
     refine ⟨ret_i64 ?_,_,by rw [World.drewN_drewN,World.drewN_drewN]⟩
     have h2:=val_lt_of_top bdb h1 (by rw [<- HN.out.2]; exact hk) (by rw [<- HN.out.1,<- HN.out.2]) hd.out.symm (by rw [<- HX.out,<- HY.out]; exact hxy)
     rw [HR.out,sgn,if_neg (by omega),if_neg (by omega)]
 ·
  have e:sgn (D.val a) (D.val b) = 1:=by have:=val_lt_of_len bdb ta hl; unfold sgn; rw [if_neg (by omega),if_neg (by omega)]
  rw [e]
  clear hxa hxb e
  go_enter Tryz.func144,Tryz.ntmps144
  go_wp2
  go_ret
  exact ⟨rfl,0,rfl⟩
set_option maxRecDepth 100000 in
set_option maxHeartbeats 2000000 in
theorem minus_new (va vb:Value) (a b:List Nat) (w:World) (ha:Sl w va a) (hb:Sl w vb b) (hla:a.length<=5000) (hle:D.val b<=D.val a) (hlen:b.length<=a.length) :
  Calls Tryz.prog 120 #[va,vb] w fun e w' => Kept w w'/\∃ v' l',e = .returned v'/\NewE w.heap.size w' v' l'/\D.Tr l'/\D.val l' = D.val a - D.val b/\l'.length<=a.length:=by
 have HA:Hid (Sl w va a):=ha
 have HB:Hid (Sl w vb b):=hb
 have HLE:Hid (D.val b<=D.val a/\b.length<=a.length):=⟨hle,hlen⟩
 obtain ⟨bda,aoa,capa,rfl,_⟩:=ha
 obtain ⟨bdb,aob,capb,rfl,_⟩:=hb
 obtain ⟨i0,hi,hz0,hz1,hz2⟩:=info_parts infoI
 clear hle hlen
 go_enter Tryz.func120,Tryz.ntmps120
 go_wp2
 go_loopw [5,6,7] (fun vd vc vi wr => ∃ (k c:Nat) (o:List Nat),c<=1/\vi = .int .i64 k/\vc = .int .i64 c/\k<=a.length/\Hid (o.length = k/\D.Bd o/\D.val (a.take k) + 65536 ^ k * c = D.val o + D.val (b.take k)) /\
   Hid (wr.ownsRow w.heap.size 3 1 vd o.length (us o))/\Hid (Kept w wr)) (fun _ _ vi _ => a.length - (intOf vi).toNat)
 case atStart => exact ⟨0,0,[],by omega,rfl,rfl,by omega,⟨rfl,D.Bd_nil,by simp [D.val]⟩,World.ownsRow_nil _ _ _ _,Kept.refl w⟩
 case round =>
  obtain ⟨k,c,o,hc,rfl,rfl,hk,ho,hown,hkept⟩:=hrel
  have hwb:∀ x,w.heap.size<=(wr.alloc x).heap.size:=fun x => by have:=hkept.out.size; simp; omega
  have hml:o.length + 1<=maxLen:=by rw [ho.out.1]; unfold maxLen; omega
  have hol:o.length<=10002:=by rw [ho.out.1]; omega
  by_cases hka:k < a.length
  ·
   obtain ⟨ba,oa,rfl,hcapa,hca⟩:=(HA.out.kept hkept.out).at hka
   have hxb:=bda.getD k
   obtain ⟨x,hx⟩:∃ x,x = a.getD k 0:=⟨_,rfl⟩
   rw [<- hx] at hca hxb
   have HX:Hid (x = a.getD k 0):=hx
   clear hx
   by_cases hkb:k < b.length
   ·
    obtain ⟨bb,ob,rfl,hcapb,hcb⟩:=(HB.out.kept hkept.out).at hkb
    have hyb:=bdb.getD k
    obtain ⟨y,hy⟩:∃ y,y = b.getD k 0:=⟨_,rfl⟩
    rw [<- hy] at hcb hyb
    have HY:Hid (y = b.getD k 0):=hy
    clear hy
    by_cases hs:y + c<=x
    ·
     go_wp2_with (at_builtin; refine wpList_append_own _ rfl _ _ 69 rfl w.heap.size 3 i0 (.int .i64 0) 1 8 Tryz.underlying69 hi hz0 hz1 hz2 rfl (by decide) _ _ _ rfl (hown.out.alloc _) ⟨wr.heap.size,0,none⟩ 1 1 [.int .i64 ((x:Int) - c - y)] rfl rfl (cell_new wr _ _) (fun u hu => by simp at hu; subst hu; rfl) (by omega) (by omega) (by exact hwb _) ?_)
     intro v' w3 hown' hgrow _
     have HN:Hid (w3.ownsRow w.heap.size 3 1 v' (o.length + 1) (us (o ++ [x - y - c]))/\Kept w w3):=by
      refine ⟨?_,Below.grown (hkept.out.alloc _) hgrow ((hkept.out.alloc _).size) (fun j hj => (hown.out.lt j hj).1)⟩
      rw [us_snoc,show ((x - y - c:Nat):Int) = (x:Int) - c - y by omega]; exact hown'
     clear hown' hgrow hwb
     go_wp2
     go_roundw
     case rel =>
      have hst:=diff_step (y:=y) HX.out HY.out hxb (by omega) hc ho.out.1 ho.out.2.2
      rw [if_pos (show y + c<=x by omega),if_pos (show y + c<=x by omega)] at hst
      exact ⟨k + 1,0,o ++ [x - y - c],by omega,by go_num,rfl,by omega,⟨by rw [List.length_append,ho.out.1]; rfl,ho.out.2.1.snoc (by omega),hst⟩,by rw [List.length_append]; exact HN.out.1,HN.out.2⟩
     case measure => simp [intOf]; omega
    ·
     go_wp2_with (at_builtin; refine wpList_append_own _ rfl _ _ 69 rfl w.heap.size 3 i0 (.int .i64 0) 1 8 Tryz.underlying69 hi hz0 hz1 hz2 rfl (by decide) _ _ _ rfl (hown.out.alloc _) ⟨wr.heap.size,0,none⟩ 1 1 [.int .i64 ((x:Int) - c - y + 65536)] rfl rfl (cell_new wr _ _) (fun u hu => by simp at hu; subst hu; rfl) (by omega) (by omega) (by exact hwb _) ?_)
     intro v' w3 hown' hgrow _
     have HN:Hid (w3.ownsRow w.heap.size 3 1 v' (o.length + 1) (us (o ++ [x + 65536 - y - c]))/\Kept w w3):=by
      refine ⟨?_,Below.grown (hkept.out.alloc _) hgrow ((hkept.out.alloc _).size) (fun j hj => (hown.out.lt j hj).1)⟩
      rw [us_snoc,show ((x + 65536 - y - c:Nat):Int) = (x:Int) - c - y + 65536 by omega]; exact hown'
     clear hown' hgrow hwb
     go_wp2
     go_roundw
     case rel =>
      have hst:=diff_step (y:=y) HX.out HY.out hxb (by omega) hc ho.out.1 ho.out.2.2
      rw [if_neg (show ¬ y + c<=x by omega),if_neg (show ¬ y + c<=x by omega)] at hst
      exact ⟨k + 1,1,o ++ [x + 65536 - y - c],by omega,by go_num,rfl,by omega,⟨by rw [List.length_append,ho.out.1]; rfl,ho.out.2.1.snoc (by omega),hst⟩,by rw [List.length_append]; exact HN.out.1,HN.out.2⟩
     case measure => simp [intOf]; omega
   ·
    by_cases hs:0 + c<=x
    ·
     go_wp2_with (at_builtin; refine wpList_append_own _ rfl _ _ 69 rfl w.heap.size 3 i0 (.int .i64 0) 1 8 Tryz.underlying69 hi hz0 hz1 hz2 rfl (by decide) _ _ _ rfl (hown.out.alloc _) ⟨wr.heap.size,0,none⟩ 1 1 [.int .i64 ((x:Int) - c)] rfl rfl (cell_new wr _ _) (fun u hu => by simp at hu; subst hu; rfl) (by omega) (by omega) (by exact hwb _) ?_)
     intro v' w3 hown' hgrow _
     have HN:Hid (w3.ownsRow w.heap.size 3 1 v' (o.length + 1) (us (o ++ [x - 0 - c]))/\Kept w w3):=by
      refine ⟨?_,Below.grown (hkept.out.alloc _) hgrow ((hkept.out.alloc _).size) (fun j hj => (hown.out.lt j hj).1)⟩
      rw [us_snoc,show ((x - 0 - c:Nat):Int) = (x:Int) - c by omega]; exact hown'
     clear hown' hgrow hwb
     go_wp2
     go_roundw
     case rel =>
      have hst:=diff_step (y:=0) HX.out (getD_out hkb).symm hxb (by omega) hc ho.out.1 ho.out.2.2
      rw [if_pos (show 0 + c<=x by omega),if_pos (show 0 + c<=x by omega)] at hst
      exact ⟨k + 1,0,o ++ [x - 0 - c],by omega,by go_num,rfl,by omega,⟨by rw [List.length_append,ho.out.1]; rfl,ho.out.2.1.snoc (by omega),hst⟩,by rw [List.length_append]; exact HN.out.1,HN.out.2⟩
     case measure => simp [intOf]; omega
    ·
     go_wp2_with (at_builtin; refine wpList_append_own _ rfl _ _ 69 rfl w.heap.size 3 i0 (.int .i64 0) 1 8 Tryz.underlying69 hi hz0 hz1 hz2 rfl (by decide) _ _ _ rfl (hown.out.alloc _) ⟨wr.heap.size,0,none⟩ 1 1 [.int .i64 ((x:Int) - c + 65536)] rfl rfl (cell_new wr _ _) (fun u hu => by simp at hu; subst hu; rfl) (by omega) (by omega) (by exact hwb _) ?_)
     intro v' w3 hown' hgrow _
     have HN:Hid (w3.ownsRow w.heap.size 3 1 v' (o.length + 1) (us (o ++ [x + 65536 - 0 - c]))/\Kept w w3):=by
      refine ⟨?_,Below.grown (hkept.out.alloc _) hgrow ((hkept.out.alloc _).size) (fun j hj => (hown.out.lt j hj).1)⟩
      rw [us_snoc,show ((x + 65536 - 0 - c:Nat):Int) = (x:Int) - c + 65536 by omega]; exact hown'
     clear hown' hgrow hwb
     go_wp2
     go_roundw
     case rel =>
      have hst:=diff_step (y:=0) HX.out (getD_out hkb).symm hxb (by omega) hc ho.out.1 ho.out.2.2
      rw [if_neg (show ¬ 0 + c<=x by omega),if_neg (show ¬ 0 + c<=x by omega)] at hst
      exact ⟨k + 1,1,o ++ [x + 65536 - 0 - c],by omega,by go_num,rfl,by omega,⟨by rw [List.length_append,ho.out.1]; rfl,ho.out.2.1.snoc (by omega),hst⟩,by rw [List.length_append]; exact HN.out.1,HN.out.2⟩
     case measure => simp [intOf]; omega
  ·
   obtain rfl:k = a.length:=by omega
   have hval:=ho.out.2.2
   rw [List.take_length,List.take_of_length_le HLE.out.2] at hval
   have hlt2:=D.val_lt ho.out.2.1
   rw [ho.out.1] at hlt2
   have hc0:c = 0:=by
    have hcv:=HLE.out.1
    rcases Nat.lt_or_ge 0 c with h | h
    ·
     have e:c = 1:=by omega
     rw [e] at hval
     omega
    ·
     omega
   rw [hc0] at hval
   have HS:Hid (New w.heap.size wr u5 o/\o.length<=a.length):=⟨New.of_owns hown.out ho.out.2.1,by rw [ho.out.1]; exact Nat.le_refl _⟩
   have HV:Hid (D.val a = D.val o + D.val b):=by
    show D.val a = _
    simpa using hval
   clear hval hlt2 hwb hc0
   go_wp2_with fail
   refine (trim_newE _ HS.out.1 (by omega)).mono ?_
   rintro e w1 ⟨rfl,v',l',rfl,hn',ht',hv',hl'⟩
   have HR:Hid (NewE w.heap.size w1 v' l'/\D.Tr l'/\D.val l' = D.val a - D.val b/\l'.length<=a.length):=⟨hn',ht',by rw [hv',HV.out]; omega,Nat.le_trans hl' HS.out.2⟩
   clear hn' ht' hv' hl'
   go_wp2
   go_ret
   exact ⟨hkept.out,v',l',rfl,HR.out⟩
theorem minus_any (va vb:Value) (a b:List Nat) (w:World) (ha:Sl w va a) (hb:Sl w vb b) (hla:a.length<=5000) (hle:D.val b<=D.val a) (hlen:b.length<=a.length) :
  Calls Tryz.prog 120 #[va,vb] w fun e w' => Kept w w'/\∃ v' l',e = .returned v'/\Sl w' v' l'/\D.Tr l'/\D.val l' = D.val a - D.val b/\l'.length<=a.length:=by
 refine (minus_new va vb a b w ha hb hla hle hlen).mono ?_
 rintro e w' ⟨h1,v',l',h2,h3,h4⟩
 exact ⟨h1,v',l',h2,h3.1,h4⟩
end D
def val9:List Nat->Nat
 | [] => 0
 | x :: l => x + 1000000000 * val9 l
theorem val9_snoc (p:List Nat) (x:Nat):val9 (p ++ [x]) = val9 p + 1000000000 ^ p.length * x:=by
 induction p with
 | nil => simp [val9]
 | cons y l ih =>
  simp only [List.cons_append,val9,ih,List.length_cons,Nat.pow_succ]
  rw [Nat.mul_add,<- Nat.mul_assoc,Nat.mul_comm 1000000000 (1000000000 ^ l.length)]; omega
theorem groups_len {l:List Nat} {n:Nat} (hb:M.Bd l) (h:1000000000 ^ n<=M.val l):n<=2 * l.length:=by
 have h1:=M.val_lt hb
 have h2:4294967296 ^ l.length<=1000000000 ^ (2 * l.length):=by
  rw [Nat.pow_mul]; exact Nat.pow_le_pow_left (by decide) _
 have h3:1000000000 ^ n < 1000000000 ^ (2 * l.length):=by omega
 exact Nat.le_of_lt ((Nat.pow_lt_pow_iff_right (by decide)).1 h3)
theorem groups_step {gs r q:List Nat} {rem V:Nat} (h:val9 gs + 1000000000 ^ gs.length * M.val r = V) (hq:M.val r = 1000000000 * M.val q + rem) :
  val9 (gs ++ [rem]) + 1000000000 ^ (gs ++ [rem]).length * M.val q = V:=by
 rw [val9_snoc,List.length_append,List.length_singleton,Nat.pow_succ,Nat.mul_assoc,<- h,hq,Nat.mul_add]
 omega
set_option maxRecDepth 100000 in
set_option maxHeartbeats 2000000 in
theorem groups_any {v:Value} {l:List Nat} (w:World) (h:Sl w v l) (ht:M.Tr l) (h0:0 < l.length) (hl:l.length<=1000) :
  Calls Tryz.prog 67 #[v] w fun e w' => Kept w w'/\∃ v' gs,e = .returned v'/\New w.heap.size w' v' gs/\0 < gs.length/\(∀ x ∈ gs,x < 1000000000)/\gs.getD (gs.length - 1) 0 ≠ 0/\val9 gs = M.val l/\gs.length<=2 * l.length + 1:=by
 have HS:Hid (Sl w v l):=h
 have HT:Hid (M.Tr l):=ht
 obtain ⟨bdl,ao,cap,rfl,_⟩:=h
 clear ht
 obtain ⟨i0,hi,hz0,hz1,hz2⟩:=info_parts Tryz.info66
 go_enter Tryz.func67,Tryz.ntmps67
 go_wp2_with fail
 refine (dup_some w HS.out h0 (by omega)).mono ?_
 rintro e w1 ⟨hk1,v1,rfl,hn1⟩
 obtain ⟨b1,N1,f1,rfl,hB1,hN1,hr1,hf1⟩:∃ (b N:Nat) (f:Nat->Value),v1 = .slice (some ⟨b,0,none⟩) l.length N/\w.heap.size<=b/\l.length<=N/\w1.rowIs b 66 N f/\∀ j,j < l.length->f j = .int .u32 ((l.getD j 0:Nat):Int):=by
  obtain ⟨_,⟨_,h⟩ | h⟩:=hn1
  ·
   rw [h] at h0; simp at h0
  ·
   exact h
 have HK1:Hid (Kept w w1):=hk1
 have HB1:Hid (w.heap.size<=b1/\b1 < w1.heap.size):=⟨hB1,hr1.lt⟩
 have HR1:Hid (w1.rowIs b1 66 N1 f1/\∀ j,j < l.length->f1 j = .int .u32 ((l.getD j 0:Nat):Int)):=⟨hr1,hf1⟩
 clear hk1 hn1 hr1 hf1 hB1
 go_wp2
 go_loopg [3,4] (M.val l) (fun g vg vr wr => ∃ (gs r:List Nat),g = M.val r/\r.length<=l.length/\vr = (if r.length = 0 then .slice none 0 0 else .slice (some ⟨b1,0,none⟩) r.length N1) /\
   Hid (wr.ownsRow w1.heap.size 66 1 vg gs.length (us gs))/\Hid (∃ f,wr.rowIs b1 66 N1 f/\∀ j,j < r.length->f j = .int .u32 ((r.getD j 0:Nat):Int)) /\
   Hid (M.Bd r/\M.Tr r/\(∀ x ∈ gs,x < 1000000000)/\val9 gs + 1000000000 ^ gs.length * M.val r = M.val l/\gs.length<=2 * l.length + 1/\(r = []->0 < gs.length/\gs.getD (gs.length - 1) 0 ≠ 0))/\Hid (Kept w wr/\w1.heap.size<=wr.heap.size))
 case atStart =>
  exact ⟨[],l,rfl,Nat.le_refl _,by rw [if_neg (by omega)],World.ownsRow_nil _ _ _ _,⟨f1,HR1.out.1,HR1.out.2⟩,⟨bdl,HT.out,(fun x hx => by cases hx),by simp [val9],by simp,(fun e => by rw [e] at h0; simp at h0)⟩,HK1.out,Nat.le_refl _⟩
 case round =>
  obtain ⟨gs,r,rfl,hrl,rfl,hown,hrow,hnum,hkept⟩:=hrel
  by_cases hr0:r.length = 0
  ·
   rw [if_pos hr0]
   go_wp2
   go_ret
   have e:r = []:=List.length_eq_zero_iff.1 hr0
   have hn:=hnum.out
   refine ⟨hkept.out.1,_,gs,rfl,(New.of_owns hown.out (fun x hx => by have:=hn.2.2.1 x hx; omega)).mono HK1.out.size,(hn.2.2.2.2.2 e).1,hn.2.2.1,(hn.2.2.2.2.2 e).2,?_,hn.2.2.2.2.1⟩
   have:=hn.2.2.2.1
   rw [e] at this
   simpa [M.val] using this
  ·
   rw [if_neg hr0]
   obtain ⟨f,hrw,hf⟩:=hrow.out
   have hsm:=small_any b1 N1 f r 1000000000 wr hnum.out.1 (by omega) (by omega) (by omega) (by omega) hrw hf
   rw [show ((1000000000:Nat):Int) = 1000000000 from rfl] at hsm
   have HSM:Hid (Calls Tryz.prog 110 #[.slice (some ⟨b1,0,none⟩) r.length N1,.int .u32 1000000000] wr fun e w' => wr.grownBy w' (some b1)/\∃ q r',e = .returned (.int .u32 ((r':Nat):Int)) /\
    New b1 w' (.slice (some ⟨b1,0,none⟩) r.length N1) q/\q.length = r.length/\M.val r = 1000000000 * M.val q + r'/\r' < 1000000000):=hsm
   have hpos:0 < M.val r:=M.val_pos hnum.out.2.1 (fun e => by rw [e] at hr0; simp at hr0)
   have hglen:gs.length<=2 * l.length:=groups_len bdl (by
    have h1:=hnum.out.2.2.2.1
    have h2:1000000000 ^ gs.length * 1<=1000000000 ^ gs.length * M.val r:=Nat.mul_le_mul_left _ hpos
    omega)
   clear hsm hrw hf
   have hml:gs.length + 1<=maxLen:=by unfold maxLen; omega
   go_wp2_with fail
   refine HSM.out.mono ?_
   rintro e w2 ⟨hg2,q,rem,rfl,hnq,hql,hqv,hrd⟩
   have hown2:=hown.out.kept hg2 (by
    cases hvb:Value.ownBlock u3 with
    | none => exact .inl rfl
    | some k =>
     right
     have hk:=(hown.out.lt k hvb).1
     have:=HB1.out.2
     intro e
     simp at e
     omega)
   have HOW:Hid (w2.ownsRow w1.heap.size 66 1 u3 gs.length (us gs)):=hown2
   have HQ:Hid (New b1 w2 (.slice (some ⟨b1,0,none⟩) r.length N1) q/\q.length = r.length/\M.val r = 1000000000 * M.val q + rem/\rem < 1000000000):=⟨hnq,hql,hqv,hrd⟩
   have HK2:Hid (Kept w w2/\w1.heap.size<=w2.heap.size):=⟨Below.grown hkept.out.1 hg2 hkept.out.1.size (fun k hk => by cases hk; exact HB1.out.1),Nat.le_trans hkept.out.2 hg2.size⟩
   have hwb:w1.heap.size<=(w2.alloc (.cells #[.int .u32 (rem:Int)] 66)).heap.size:=by have:=HK2.out.2; simp; omega
   clear hown2 hnq hql hqv hg2 HSM
   go_wp2_with (at_builtin; refine wpList_append_own _ rfl _ _ 25 rfl w1.heap.size 66 i0 (.int .u32 0) 1 4 Tryz.underlying25 hi hz0 hz1 hz2 rfl (by decide) _ _ _ rfl (HOW.out.alloc _) ⟨w2.heap.size,0,none⟩ 1 1 [.int .u32 (rem:Int)] rfl rfl (cell_new w2 _ _) (fun u hu => by simp at hu; subst hu; rfl) (by omega) (by omega) (by exact hwb) ?_)
   intro v' w3 hown' hgrow _
   have hob:∀ k,Value.ownBlock u3 = some k->w1.heap.size<=k:=fun k hk => (HOW.out.lt k hk).1
   have HOW3:Hid (w3.ownsRow w1.heap.size 66 1 v' (gs.length + 1) (us (gs ++ [rem]))):=by
    show World.ownsRow _ _ _ _ _ _ _
    rw [us_snoc]; exact hown'
   have HK3:Hid (Kept w w3/\w1.heap.size<=w3.heap.size/\New b1 w3 (.slice (some ⟨b1,0,none⟩) r.length N1) q):=by
    refine ⟨Below.grown (HK2.out.1.alloc _) hgrow ((HK2.out.1.alloc _).size) (fun k hk => Nat.le_trans HK1.out.size (hob k hk)),Nat.le_trans hwb hgrow.size,HQ.out.1.at_block ?_⟩
    have hlt:=HQ.out.1.lt.1
    rw [hgrow.block b1 (by simp; omega) (fun e => by have:=hob b1 e.symm; have:=HB1.out.2; omega)]
    exact Below.heap_alloc _ _ _ hlt
   clear hown' hgrow hob hwb
   go_wp2_with fail
   have htr:=trim_raw (some ⟨b1,0,none⟩) N1 q w3 (by rw [HQ.out.2.1]; exact HK3.out.2.2.sl) (by rw [HQ.out.2.1]; omega)
   rw [HQ.out.2.1] at htr
   refine htr.mono ?_
   rintro e w4 ⟨rfl,n,hn,htn,hvn,rfl⟩
   clear htr
   have HTN:Hid (n<=r.length/\M.Tr (q.take n)/\M.val (q.take n) = M.val q):=⟨hn,htn,hvn⟩
   clear hn htn hvn
   obtain ⟨vv,hvv⟩:∃ vv,vv = (if n = 0 then Value.slice none 0 0 else .slice (some ⟨b1,0,none⟩) n N1):=⟨_,rfl⟩
   rw [<- hvv]
   have HVV:Hid (vv = (if n = 0 then Value.slice none 0 0 else .slice (some ⟨b1,0,none⟩) n N1)):=hvv
   clear hvv
   go_wp2
   have hq:=HQ.out
   have hvn:=HTN.out.2.2
   have etl:(q.take n).length = n:=by rw [List.length_take,hq.2.1]; have:=HTN.out.1; omega
   go_roundg (M.val (q.take n))
   case measure => rw [hvn]; omega
   case rel =>
    obtain ⟨_,f',hrw',hf'⟩:=HK3.out.2.2.lt
    refine ⟨gs ++ [rem],q.take n,rfl,by rw [etl]; have:=HTN.out.1; omega,by rw [etl]; exact HVV.out,by rw [List.length_append]; exact HOW3.out,⟨f',hrw',fun j hj => ?_⟩,⟨hq.1.1.take n,HTN.out.2.1,fun x hx => ?_,?_,by simp; omega,fun e => ⟨by simp,?_⟩⟩,HK3.out.1,HK3.out.2.1⟩
    ·
     rw [etl] at hj
     rw [hf' j (by rw [hq.2.1]; have:=HTN.out.1; omega),List.getD_eq_getElem?_getD,List.getD_eq_getElem?_getD,List.getElem?_take_of_lt hj]
    ·
     rcases List.mem_append.1 hx with h | h
     ·
      exact hnum.out.2.2.1 x h
     ·
      simp at h; omega
    ·
     rw [hvn]; exact groups_step hnum.out.2.2.2.1 hq.2.2.1
    ·
     rw [e] at hvn
     have:M.val q = 0:=by rw [<- hvn]; rfl
     have hrem:rem = M.val r:=by rw [hq.2.2.1,this]; omega
     simp
     omega
end Go.Proofs.YthfbfbfambbkaaaGreatDoor

/- shuntref14.Solved: its walk. (mk_ft9.py) -/
import Derived.Test.YtdcgdpbgnijnpaaGreatFt11
namespace Go.Proofs.YtdcgdpbgnijnpaaGreat
open Go.RowKit
open V (RowL RowL.alloc RowL.lt RowL.cell RowL.fz RowL.kept RowL.block RowL.set RowL.far)
open Sp (hid own_kept own_keptK own_row own_shape info_parts)
open X (zk zr zl zd region_z anyZ_ready AllZ AllZ.cons AllZ.nil)
open Ba (stg lastP pivs leftR leftC wideZ wideM nz facGo facS Fits leftR_iff leftC_iff stg_snoc stg_exact stg_col last_ne pivs_take ext)
open Sy
namespace Bp
theorem RdX.cells {A:Nat→Prop} {K n:Nat} {zs:Nat→Int} {w:World} {ao:Option Addr} {cap:Nat} (h:RdX A K zs w (.slice ao n cap) n):∃ xs:List Value,xs.length = n * 2∧(∀ u ∈ xs,u.oneCell' = true)∧(0 < n→∃ b off:Nat,ao = some ⟨b,off,none⟩∧b < w.heap.size∧∀ j u,xs[j]? = some u→w.cell? ⟨b,off + j,none⟩ = some u) ∧
  ∀ j,j < n→∃ s o k c,xs[j * 2]? = some (.bool s)∧xs[j * 2 + 1]? = some (.slice o k c)∧DX A K w s (.slice o k c) (zs j):=by
 by_cases h0:n = 0
 ·
  subst h0
  exact ⟨[],rfl,(fun u hu => by cases hu),fun h => absurd h (Nat.lt_irrefl 0),fun j hj => absurd hj (Nat.not_lt_zero j)⟩
 obtain ⟨_,_,e,h⟩:=h
 cases e
 obtain ⟨b,off,rfl,hb,_,hc⟩:=h (by omega)
 have hat:∀ i,i < n * 2→((List.range (n * 2)).map fun i => (w.cell? ⟨b,off + i,none⟩).getD undef)[i]? = some ((w.cell? ⟨b,off + i,none⟩).getD undef):=fun i hi => by
  rw [List.getElem?_map,List.getElem?_range hi]
  rfl
 have hcell:∀ i,i < n * 2→∃ u,w.cell? ⟨b,off + i,none⟩ = some u∧u.oneCell' = true:=fun i hi => by
  obtain ⟨s,so,sk,sc,h1,h2,_⟩:=hc (i / 2) (by omega)
  rcases Nat.mod_two_eq_zero_or_one i with e | e
  ·
   have e2:i / 2 * 2 = i:=by omega
   rw [e2] at h1
   exact ⟨_,h1,rfl⟩
  ·
   have e2:off + i / 2 * 2 + 1 = off + i:=by omega
   rw [e2] at h2
   exact ⟨_,h2,rfl⟩
 refine ⟨(List.range (n * 2)).map fun i => (w.cell? ⟨b,off + i,none⟩).getD undef,by rw [List.length_map,List.length_range],fun u hu => ?_,fun _ => ⟨b,off,rfl,hb,fun j u hu => ?_⟩,fun j hj => ?_⟩
 ·
  obtain ⟨i,hi,rfl⟩:=List.mem_map.1 hu
  obtain ⟨x,hx,ho⟩:=hcell i (List.mem_range.1 hi)
  rw [hx]
  exact ho
 ·
  have hj:j < n * 2:=by
   have:=(List.getElem?_eq_some_iff.1 hu).1
   rwa [List.length_map,List.length_range] at this
  rw [hat j hj] at hu
  obtain ⟨x,hx,_⟩:=hcell j hj
  rw [hx] at hu ⊢
  exact hu
 ·
  obtain ⟨s,so,sk,sc,h1,h2,h3⟩:=hc j hj
  exact ⟨s,so,sk,sc,by rw [hat _ (by omega),h1]; rfl,by rw [hat _ (by omega),show off + (j * 2 + 1) = off + j * 2 + 1 by omega,h2]; rfl,h3⟩
theorem NO.monoA {A A':Nat→Prop} {P K n:Nat} {zs:Nat→Int} {w:World} {v:Value} (h:NO A P K zs w v n) (hA:∀ q,A' q→A q):NO A' P K zs w v n:=by
 obtain ⟨xs,ho,hv,hx⟩:=h
 refine ⟨xs,ho,fun b hb hq => hv b hb (hA b hq),fun j hj => ?_⟩
 obtain ⟨s,o,k,c,h1,h2,h3⟩:=hx j hj
 exact ⟨s,o,k,c,h1,h2,h3.mono (fun q hq => hq.imp (hA q) id) (Nat.le_refl _)⟩
structure SvS (w W0 wr:World) (n lm:Nat) (M:Nat→Nat→Int) (b:Nat→Int) (ps:List (Nat × Nat)) (gs cs gO gl pq k:Nat):Prop where
 kept:Kept W0 wr
 side:NO (fun q => q = gO ∨ q = pq) W0.heap.size 144 (sdF n M b (ps.take k)) wr (.slice (some ⟨gs,0,none⟩) n cs) n
 own:NO (fun q => q = gs ∨ q = pq) W0.heap.size 144 (ownF n M b ps k) wr (.slice (some ⟨gO,0,none⟩) n n) n
 left:BLs wr (some ⟨gl,0,none⟩) n (leftR (ps.take k))
 q:∃ s o m c,RowL 51 wr pq [.bool s,.slice o m c]∧DX (fun q => q = gs ∨ q = gO ∨ q = pq) 144 wr s (.slice o m c) (lastP M (ps.take k))
 lim:∀ t,t < k→sdL n lm M b ps t = false
 old:W0.heap.size≤pq
 far:0 < n→gl ≠ gs∧gl ≠ gO∧gl ≠ pq
theorem SvS.ne {w W0 wr:World} {n lm:Nat} {M:Nat→Nat→Int} {b:Nat→Int} {ps:List (Nat × Nat)} {gs cs gO gl pq k:Nat} (h:SvS w W0 wr n lm M b ps gs cs gO gl pq k):gs ≠ gO∧gs ≠ pq∧gO ≠ pq :=
 ⟨fun e => h.side.choose_spec.2.1 gs rfl (.inl e),fun e => h.side.choose_spec.2.1 gs rfl (.inr e),fun e => h.own.choose_spec.2.1 gO rfl (.inr e)⟩
theorem SvS.keep {w W0 wr wr':World} {n lm:Nat} {M:Nat→Nat→Int} {b:Nat→Int} {ps:List (Nat × Nat)} {gs cs gO gl pq k:Nat} (h:SvS w W0 wr n lm M b ps gs cs gO gl pq k) (kp:Kept wr wr'):SvS w W0 wr' n lm M b ps gs cs gO gl pq k:=by
 obtain ⟨s,o,m,c,r,hd⟩:=h.q
 exact ⟨h.kept.trans kp,h.side.kept kp,h.own.kept kp,h.left.kept kp,⟨s,o,m,c,r.kept kp,hd.kept kp⟩,h.lim,h.old,h.far⟩
def sdN (n:Nat) (M:Nat→Nat→Int) (b:Nat→Int) (ps:List (Nat × Nat)) (k i:Nat):Int:=stg M (ps.take k) (ps.getD k (0,0)).1 (ps.getD k (0,0)).2 * sdF n M b (ps.take k) i - stg M (ps.take k) i (ps.getD k (0,0)).2 * sdF n M b (ps.take k) (ps.getD k (0,0)).1
theorem getD_ps {ps:List (Nat × Nat)} {k:Nat} (hk:k < ps.length):ps.getD k (0,0) = ps[k]:=by rw [List.getD_eq_getElem?_getD,List.getElem?_eq_getElem hk]; rfl
theorem sdL_num {n lm:Nat} {M:Nat→Nat→Int} {b:Nat→Int} {ps:List (Nat × Nat)} {k i:Nat} (hL:lm≤32) (h:sdL n lm M b ps k = false) (hi:i < n) (hl:leftR (ps.take k) i = true):(sdF n M b (ps.take k) i).natAbs < W32:=by
 refine not_wide_32 hL ?_
 cases e:wideZ lm (sdF n M b (ps.take k) i) with
 | false => rfl
 | true =>
  have:sdL n lm M b ps k = true:=anyB_ex.2 ⟨i,hi,by rw [hl,e]; rfl⟩
  rw [h] at this
  cases this
theorem left_less {ps:List (Nat × Nat)} {k i:Nat} (hk:k < ps.length) (h:leftR (ps.take (k + 1)) i = true):leftR (ps.take k) i = true:=by
 rw [take_snoc hk,leftR_snoc,Bool.and_eq_true] at h
 exact h.1
theorem sdN_lim {n lm:Nat} {M:Nat→Nat→Int} {b:Nat→Int} {ps:List (Nat × Nat)} {k i:Nat} (hf:Fits n M ps) (hs:facS n lm M = (ps,0)) (hL:lm≤32) (hk:k < ps.length) (h:sdL n lm M b ps k = false) (hi:i < n) (hl:leftR (ps.take (k + 1)) i = true):(sdN n M b ps k i).natAbs < 65536 ^ 144:=by
 have hw:=(fac_wide n [] hs).2 k (Nat.zero_le _) (Nat.le_of_lt hk)
 have hp:=pivs_take hf.piv k
 have hlt:=hf.lt _ (List.getElem_mem hk)
 have h2:=left_less hk hl
 unfold sdN
 rw [getD_ps hk]
 have a1:=mul_nat (narrow_all hp hL hw hlt.1 hlt.2 (row_at hf.rows hk)) (sdL_num hL h hi h2)
 have a2:=mul_nat (narrow_all hp hL hw hi hlt.2 (leftR_iff.1 h2)) (sdL_num hL h hlt.1 (leftR_iff.2 (row_at hf.rows hk)))
 have a3:=w32_144
 omega
theorem pow144:65536 ^ 144 < 65536 ^ 200:=by decide
set_option maxRecDepth 100000 in
set_option maxHeartbeats 80000000 in
theorem solved14_any (lo bo:Option Addr) (n lc bc lm:Nat) (M:Nat→Nat→Int) (b:Nat→Int) (ps:List (Nat × Nat)) (w:World) (h:SgR (fun _ => False) n M ps w (.slice lo n lc)) (hb:RdX (fun _ => False) 144 b w (.slice bo n bc) n) (hf:Fits n M ps) (hl:ps.length = n) (hs:facS n lm M = (ps,0)) (hL:lm≤32) (hn:n≤48) :
  Calls Tryz.prog 39 #[.slice lo n lc,.slice bo n bc,.int .i64 (lm:Int)] w (SldIs n lm M b ps w):=by
 obtain ⟨Q,hQ⟩:∃ Q,Q = SldIs n lm M b ps w:=⟨_,rfl⟩
 rw [← hQ]
 have HQ:=hid hQ
 have HF:=hid (And.intro hf (And.intro hl (And.intro hs hL)))
 clear hQ hf hl hs hL
 obtain ⟨i0,hi0,hz0,hz1,hz2⟩:=info_parts info_rn
 have rX:=RowL.alloc 94 w [.slice none 0 0,.bool false,.slice none 0 0]
 have kX:=(Kept.refl w).alloc (.cells #[.slice none 0 0,.bool false,.slice none 0 0] 94)
 obtain ⟨pX,hpX⟩:∃ p,p = w.heap.size:=⟨_,rfl⟩
 rw [← hpX] at rX
 have HPX:=hid (show w.heap.size≤pX by rw [hpX]; exact Nat.le_refl _)
 have hg:=(h.add.mono (A':=fun q => w.heap.size≤q) (fun q hq => .inr hq))
 go_enter Tryz.func39,Tryz.ntmps39
 --%A
 go_upto_region 1 with fail
 rw [← hpX]
 clear hpX
 change RowL 94 (w.alloc (.cells #[.slice none 0 0,.bool false,.slice none 0 0] 94)) pX _ at rX
 generalize w.alloc (.cells #[.slice none 0 0,.bool false,.slice none 0 0] 94) = W0 at rX kX ⊢
 have HB:=hid (show Kept w W0∧RowL 94 W0 pX [.slice none 0 0,.bool false,.slice none 0 0]∧w.heap.size≤pX from ⟨kX,rX,HPX.out⟩)
 have HG:=hid (hg.kept kX)
 obtain ⟨xs,hxl,hx1,hxs,hxd⟩:=(hb.kept kX).add.cells
 have hsrc:0 < n→∃ ad,bo = some ad∧∀ j u,xs[j]? = some u→(W0.alloc (.cells #[] 51)).cell? (ad.add j) = some u:=fun h0 => by
  obtain ⟨bb,off,e,hbl,hc⟩:=hxs h0
  refine ⟨_,e,fun j u hu => ?_⟩
  have h1:=(Below.cell ((Kept.refl W0).alloc (.cells #[] 51)) (p:=⟨bb,off + j,none⟩) hbl).trans (hc j u hu)
  by_cases e:j = 0
  ·
   subst e; simpa [Addr.add] using h1
  ·
   simp [Addr.add,e,h1]
 clear h hb hg rX kX hxs
 --%B
 go_wp2_with (at_builtin; refine Sp.wpList_src rfl (.tmp 28) (.tmp 29) 52 rfl W0.heap.size 51 i0 (.agg #[.bool false,.slice none 0 0]) 2 32 und_rns hi0 hz0 hz1 hz2 rfl (by decide) W0.heap.size rfl (Sp.own_none 51 2 W0 W0.heap.size (Nat.le_refl _)) bo n bc xs rfl hxl hsrc hx1 (by unfold maxLen; omega) (by omega) (by rw [World.size_alloc]; omega) ?_)
 intro gs cs w1 hO hgr
 have K1:Kept W0 w1:=X.kept_grown ((Kept.refl W0).alloc (.cells #[] 51)) hgr (Nat.le_refl _)
 have hgl:=World.ownsRow.lt hO gs rfl
 have hside:NO (fun q => w1.heap.size≤q) W0.heap.size 144 b w1 (.slice (some ⟨gs,0,none⟩) n cs) n:=⟨xs,hO,(fun g hg hq => by
  have:=own_eq hg
  have hq:w1.heap.size≤g:=hq
  omega),fun j hj => by
  obtain ⟨s,o,k,c,h1,h2,h3⟩:=hxd j hj
  refine ⟨s,o,k,c,h1,h2,(h3.kept K1).mono (fun q hq => .inr ?_) (Nat.le_refl _)⟩
  have:=K1.size
  rcases hq with hq | hq
  ·
   have hq:w1.heap.size≤q:=hq
   omega
  ·
   have:=own_eq hq
   omega⟩
 have HS1:=hid (And.intro K1 (And.intro hside hgl))
 have hal:=all14_any n (by omega) w1
 clear hO hgr K1 hside hgl hxl hx1 hsrc hxd
 --%C
 go_wp2_with fail
 refine hal.mono ?_
 rintro e w2 ⟨hk2,gl,hgl2,rfl,hbl⟩
 have HL2:=hid (And.intro hk2 (And.intro hgl2 hbl))
 have hsm:=D.Small_new 1 w2 (by decide)
 clear hal hk2 hgl2 hbl
 go_wp2_with fail
 refine hsm.mono ?_
 rintro e w3 ⟨hk3,qo,qk,qc,ql,rfl,hq1,hq2,hq3,hq4,hq5⟩
 have hni:D.NIs w3 false (.slice qo qk qc) 1:=⟨ql,hq1,⟨hq1.bd,hq2,fun _ => rfl⟩,by unfold D.int; rw [hq3]; rfl⟩
 have hdq:=dx_new (A:=fun x => x = gs) (K:=144) hni (by have:=dsl_len hq1; omega) hq5 (fun x hx => by
  have h1:=HS1.out.2.2.2
  have h2:=HL2.out.1.size
  have hx:x = gs:=hx
  omega)
 have rq:=RowL.alloc 51 w3 [.bool false,.slice qo qk qc]
 have kq:=(Kept.refl w3).alloc (.cells #[.bool false,.slice qo qk qc] 51)
 obtain ⟨pq,hpq⟩:∃ p,p = w3.heap.size:=⟨_,rfl⟩
 rw [← hpq] at rq
 have hdq:=hdq.add.kept kq
 have HPQ:=hid (show w3.heap.size≤pq∧pq≤w3.heap.size by omega)
 obtain ⟨w4,hw4⟩:∃ W,W = w3.alloc (.cells #[.bool false,.slice qo qk qc] 51):=⟨_,rfl⟩
 rw [← hw4] at kq hdq
 have rq:RowL 51 w4 pq [.bool false,.slice qo qk qc]:=by rw [hw4]; exact rq
 have h14:w1.heap.size≤w4.heap.size:=(HL2.out.1.trans (hk3.trans kq)).size
 obtain ⟨w5,hm,k5,hsz,hno⟩:=make_ns (A:=fun q => q = gs ∨ q = pq) (K:=144) (n:=n) (by omega) w4 (fun q hq => by
  have h1:=rq.lt
  have h2:=HS1.out.2.2.2
  have hq:q = gs ∨ q = pq:=hq
  omega)
 obtain ⟨gO,hgO⟩:∃ p,p = w4.heap.size:=⟨_,rfl⟩
 rw [← hgO] at hm hno
 have k15:=HL2.out.1.trans (hk3.trans (kq.trans k5))
 have HV:=hid (show SvS w W0 w5 n lm M b ps gs cs gO gl pq 0 from
  {kept:=HS1.out.1.trans k15
   side:=((HS1.out.2.1.kept k15).monoA (fun q hq => by
    have h1:=(HL2.out.1.trans hk3).size
    have h2:=HPQ.out
    have hq:q = gO ∨ q = pq:=hq
    show w1.heap.size≤q
    omega)).congr (fun j _ => sdF_nil.symm)
   own:=by rw [ownF_0]; exact hno.low (by have:=(HS1.out.1).size; omega)
   left:=HL2.out.2.2.kept (hk3.trans (kq.trans k5))
   q:=⟨false,qo,qk,qc,rq.kept k5,(hdq.kept k5).mono (fun q hq => by
    have h2:=kq.size
    have h3:=HPQ.out
    rcases hq with hq | hq | hq
    ·
     exact .inl hq
    ·
     exact .inr (by omega)
    ·
     exact .inr (by omega)) (Nat.le_refl _)⟩
   lim:=fun t ht => absurd ht (Nat.not_lt_zero t)
   old:=by have:=(HS1.out.1.trans (HL2.out.1.trans hk3)).size; have:=HPQ.out; omega
   far:=fun h0 => by
    have h1:=HL2.out.2.2.blt h0
    have h2:=HL2.out.2.1
    have h3:=HS1.out.2.2.2
    have h4:=hk3.size
    have h5:=kq.size
    have h6:=HPQ.out
    omega })
 clear hsm hk3 hq1 hq2 hq3 hq4 hq5 hni hdq rq kq h14 k5 hsz hno k15 HL2 HS1 hgO
 rw [hw4] at hm
 --%D
 go_wp2_with fail
 rw [← hpq]
 clear hpq hw4 hm HPQ
 rename_i K26 hR26
 have HR26:=hid hR26
 clear hR26
 go_loopw [10,13] (fun v10 v13 wr => ∃ k gl cl:Nat,k≤n∧v10 = .slice (some ⟨gl,0,none⟩) n cl∧v13 = .int .i64 (k:Int)∧Hid (SvS w W0 wr n lm M b ps gs cs gO gl pq k)) (fun _ v13 _ => n + 1 - (intOf v13).toNat)
 case atStart => exact ⟨0,gl,_,Nat.zero_le _,rfl,rfl,HV.out⟩
 case round =>
  clear HV
  obtain ⟨k,gl,cl,hkn,rfl,rfl,H⟩:=hrel
  generalize wr = w6 at H ⊢
  have hkle:(k:Int)≤(n:Int):=by omega
  --%E
  go_wp2_with fail
  go_loopw [14] (fun v14 wr => ∃ i:Nat,i≤n∧v14 = .int .i64 (i:Int)∧Hid (Kept w6 wr∧∀ a,a < i→(leftR (ps.take k) a && wideZ lm (sdF n M b (ps.take k) a)) = false)) (fun v14 _ => n - (intOf v14).toNat)
  case atStart => exact ⟨0,Nat.zero_le _,rfl,Kept.refl _,fun a h => absurd h (Nat.not_lt_zero a)⟩
  case round =>
   obtain ⟨i,hi,rfl,J⟩:=hrel
   generalize wr = w7 at J ⊢
   by_cases hit:i < n
   ·
    have hii:(i:Int) < (n:Int):=by omega
    have hi0:(0:Int)≤(i:Int):=by omega
    obtain ⟨b1,o1,e1,hb1,hl1⟩:=(H.out.left.kept J.out.1) (by omega)
    injection e1 with e1
    injection e1 with e11 e12
    subst e11
    subst e12
    have x0:=hl1 i hit
    rw [Nat.zero_add] at x0
    obtain ⟨li,hli⟩:∃ x,x = leftR (ps.take k) i:=⟨_,rfl⟩
    rw [← hli] at x0
    have hstep:(leftR (ps.take k) i && wideZ lm (sdF n M b (ps.take k) i)) = false→∀ a,a < i + 1→(leftR (ps.take k) a && wideZ lm (sdF n M b (ps.take k) a)) = false:=fun h a ha => by
     by_cases e:a = i
     ·
      subst e; exact h
     ·
      exact J.out.2 a (by omega)
    have HSt:=hid (And.intro hstep hli)
    clear hstep hli hl1 hb1
    cases li with
    | false =>
     --%F
     go_wp2_with fail
     go_roundw
     case rel => exact ⟨i + 1,by omega,by go_num,J.out.1,HSt.out.1 (by rw [← HSt.out.2]; rfl)⟩
     case measure => show n - ((i:Int) + 1).toNat < n - (i:Int).toNat; omega
    | true =>
     obtain ⟨s1,o1,k1,c1,y0,y1,hd1,hk1⟩:=(H.out.side.kept J.out.1).get hit
     have hwd:=nis_wide (lm:=lm) hd1.1
     have HWd:=hid hwd
     clear hd1 hwd
     --%G
     go_wp2_with fail
     refine (D.Length_any s1 o1 k1 c1 w7 (by omega)).mono ?_
     rintro e w8 ⟨hk8,rfl⟩
     have HK8:=hid (J.out.1.trans hk8)
     clear hk8 x0 y0 y1
     by_cases hwi:lm < (k1 + 1) / 2
     ·
      have hwi':(lm:Int) < (((k1 + 1) / 2:Nat):Int):=by omega
      have rX:=HB.out.2.1.kept (H.out.kept.trans HK8.out)
      have z0:=rX.cell 0 _ rfl
      have z1:=rX.cell 1 _ rfl
      have z2:=rX.cell 2 _ rfl
      have g0:=rX.fz 0
      have g1:=rX.fz 1
      have g2:=rX.fz 2
      have HE:=hid (show SldIs n lm M b ps w exE (((w8.setCell ⟨pX,0,none⟩ (.slice none 0 0)).setCell ⟨pX,1,none⟩ (.bool false)).setCell ⟨pX,2,none⟩ (.slice none 0 0)) from
       ⟨KX.kept ((HB.out.1.trans H.out.kept).trans HK8.out) ((((KX.refl w8).setCell (T:=fun q => q = pX) (p:=⟨pX,0,none⟩) (.inl rfl) _).setCell (p:=⟨pX,1,none⟩) (.inl rfl) _).setCell (p:=⟨pX,2,none⟩) (.inl rfl) _) (fun q hq => by rw [hq]; exact HB.out.2.2),.inl ⟨.inl ⟨k,hkn,sdL_w (anyB_ex.2 ⟨i,hit,by rw [← HSt.out.2,HWd.out,decide_eq_true hwi]; rfl⟩)⟩,rfl⟩⟩)
      clear rX
      --%H
      go_wp2_with fail
      refine bodyPost_ret (v:=.tuple #[.agg #[.slice none 0 0,.bool false,.slice none 0 0],.int .i64 13]) (by simp [results,Tryz.results39,go_sem,z0,z1,z2]) rfl ?_
      rw [HQ.out]
      exact HE.out
     ·
      have hwi':¬ (lm:Int) < (((k1 + 1) / 2:Nat):Int):=by omega
      have HE:=hid (HSt.out.1 (by rw [HWd.out,decide_eq_false hwi]; simp))
      --%I
      go_wp2_with fail
      go_roundw
      case rel => exact ⟨i + 1,by omega,by go_num,HK8.out,HE.out⟩
      case measure => show n - ((i:Int) + 1).toNat < n - (i:Int).toNat; omega
   ·
    have hii:¬ (i:Int) < (n:Int):=by omega
    have hsl:sdL n lm M b ps k = false:=by
     cases e:sdL n lm M b ps k with
     | false => rfl
     | true =>
      obtain ⟨a,ha,h⟩:=anyB_ex.1 (show anyB (fun i => leftR (ps.take k) i && wideZ lm (sdF n M b (ps.take k) i)) n = true from e)
      have h2:=J.out.2 a (by omega)
      rw [h] at h2
      cases h2
    have H7:=hid (And.intro (H.out.keep J.out.1) hsl)
    clear hsl
    by_cases hke:k = n
    ·
     have hke':(k:Int) = (n:Int):=by omega
     have HKe:=hid hke
     clear hke
     --%J
     go_wp2_with fail
     refine HR26.out _ _ ?_
     rw [HQ.out]
     refine sld_tail2 hn (hid fun t ht => ?_) HF HB (hid ⟨H7.out.1.kept,HG.out.kept H7.out.1.kept,(H7.out.1.own.rdx.mono (A':=fun _ => False) (fun q hq => hq.elim) (Nat.le_refl _)).congr fun j hj => ?_⟩)
     ·
      cases e:sdW n lm M b ps t with
      | false => rfl
      | true =>
       obtain ⟨t',ht',hsd⟩:=sdL_of HF.out.1 t (by have:=HF.out.2.1; omega) e
       by_cases e2:t' = k
       ·
        rw [e2,H7.out.2] at hsd; cases hsd
       ·
        rw [H7.out.1.lim t' (by have:=HKe.out; omega)] at hsd; cases hsd
     ·
      unfold ownF
      rw [if_pos (by have:=HKe.out; omega)]
    ·
     have hke':¬ (k:Int) = (n:Int):=by omega
     have hkn':k < n:=by omega
     have hkp:k < ps.length:=by have:=HF.out.2.1; omega
     have hkI:(k:Int) < (n:Int):=by omega
     have hk0:(0:Int)≤(k:Int):=by omega
     obtain ⟨b0,rfl,hall⟩:=HG.out.all (by omega)
     obtain ⟨so,sc,hc,hm⟩:=hall k hkp
     have hlt:=HF.out.1.lt _ (List.getElem_mem hkp)
     obtain ⟨r,hr⟩:∃ x,x = ps[k].1:=⟨_,rfl⟩
     obtain ⟨c,hcl⟩:∃ x,x = ps[k].2:=⟨_,rfl⟩
     rw [← hr,← hcl] at hc hlt
     have hr0:(0:Int)≤(r:Int):=by omega
     have hc0:(0:Int)≤(c:Int):=by omega
     have hr1:(r:Int) < (n:Int):=by omega
     have hc1:(c:Int) < (n:Int):=by omega
     obtain ⟨mb,mo,ra,rc,rfl,_,hmc,hrow⟩:=hm.at hlt.1
     obtain ⟨c1,off1,s3,o3,k3,cp3,rfl,_,_,hcb,hd3,hk3⟩:=hrow.at hlt.2
     have y:=hc w7 (KX.of H7.out.1.kept)
     have y0:=y.1
     have y1:=y.2.1
     have y2:=y.2.2
     have HA:=hid (And.intro hm (And.intro hmc (And.intro hcb (And.intro hd3 (And.intro hr (And.intro hcl hlt))))))
     have rS:=RowL.alloc 47 w7 [.int .i64 (r:Int),.int .i64 (c:Int),.slice (some ⟨mb,mo,none⟩) n sc]
     have kS:=(Kept.refl w7).alloc (.cells #[.int .i64 (r:Int),.int .i64 (c:Int),.slice (some ⟨mb,mo,none⟩) n sc] 47)
     obtain ⟨pS,hpS⟩:∃ p,p = w7.heap.size:=⟨_,rfl⟩
     rw [← hpS] at rS
     have HPS:=hid (show w7.heap.size≤pS by rw [hpS]; exact Nat.le_refl _)
     clear hall hm hc y hr hcl hmc hrow hcb hd3
     --%K
     go_upto_region 16 with fail
     rw [← hpS]
     clear hpS y0 y1 y2
     change RowL 47 (w7.alloc (.cells #[.int .i64 (r:Int),.int .i64 (c:Int),.slice (some ⟨mb,mo,none⟩) n sc] 47)) pS _ at rS
     generalize w7.alloc (.cells #[.int .i64 (r:Int),.int .i64 (c:Int),.slice (some ⟨mb,mo,none⟩) n sc] 47) = w8 at rS kS ⊢
     have H8:=hid (H7.out.1.keep kS)
     obtain ⟨s1,o1,k1,cp1,y0,y1,hd1,hk1⟩:=H8.out.side.get hlt.1
     obtain ⟨s2,o2,k2,cp2,x0,x1,_,_⟩:=H8.out.own.get hkn'
     have f0:=H8.out.own.fz (k * 2)
     have f1:=H8.out.own.fz (k * 2 + 1)
     have p0:=rS.cell 0 _ rfl
     have hne:=H8.out.ne
     have hgO:=H8.out.own.lt
     have kx:=put_kx (w:=w8) (g:=gO) (j:=k) (.bool s1) (.slice o1 k1 cp1)
     have hpg:¬ pS = gO:=fun e => by
      have h1:=H7.out.1.own.lt.2
      have h2:=HPS.out
      omega
     obtain ⟨sq,oq,kq,cq,rq,dq⟩:=H8.out.q
     have H9:=hid (show Kept W0 ((w8.setCell ⟨gO,k * 2,none⟩ (.bool s1)).setCell ⟨gO,k * 2 + 1,none⟩ (.slice o1 k1 cp1))∧NO (fun q => q = gO ∨ q = pq) W0.heap.size 144 (sdF n M b (ps.take k)) ((w8.setCell ⟨gO,k * 2,none⟩ (.bool s1)).setCell ⟨gO,k * 2 + 1,none⟩ (.slice o1 k1 cp1)) (.slice (some ⟨gs,0,none⟩) n cs) n ∧
       NO (fun q => q = gs ∨ q = pq) W0.heap.size 144 (ownF n M b ps (k + 1)) ((w8.setCell ⟨gO,k * 2,none⟩ (.bool s1)).setCell ⟨gO,k * 2 + 1,none⟩ (.slice o1 k1 cp1)) (.slice (some ⟨gO,0,none⟩) n n) n∧BLs ((w8.setCell ⟨gO,k * 2,none⟩ (.bool s1)).setCell ⟨gO,k * 2 + 1,none⟩ (.slice o1 k1 cp1)) (some ⟨gl,0,none⟩) n (leftR (ps.take k)) ∧
       RowL 51 ((w8.setCell ⟨gO,k * 2,none⟩ (.bool s1)).setCell ⟨gO,k * 2 + 1,none⟩ (.slice o1 k1 cp1)) pq [.bool sq,.slice oq kq cq]∧DX (fun q => q = gs ∨ q = gO ∨ q = pq) 144 ((w8.setCell ⟨gO,k * 2,none⟩ (.bool s1)).setCell ⟨gO,k * 2 + 1,none⟩ (.slice o1 k1 cp1)) sq (.slice oq kq cq) (lastP M (ps.take k)) ∧
       RowL 47 ((w8.setCell ⟨gO,k * 2,none⟩ (.bool s1)).setCell ⟨gO,k * 2 + 1,none⟩ (.slice o1 k1 cp1)) pS [.int .i64 (r:Int),.int .i64 (c:Int),.slice (some ⟨mb,mo,none⟩) n sc] from
      ⟨(H8.out.kept.setCell (p:=⟨gO,k * 2,none⟩) hgO.1 _).setCell (p:=⟨gO,k * 2 + 1,none⟩) hgO.1 _,H8.out.side.kx kx (fun q hq => .inl hq),
       by
        rw [← ownF_upd HF.out.1 hkp,← HA.out.2.2.2.2.1]
        exact H8.out.own.put hkn' (hd1.mono (fun q hq => by
         rcases hq with (hq | hq) | hq
         ·
          exact .inr hq
         ·
          exact .inl (.inr hq)
         ·
          exact .inl (.inl hq)) (Nat.le_refl _)),
       H8.out.left.kx kx (fun h0 => (H8.out.far h0).2.1),row_kx rq kx (fun e => hne.2.2 e.symm),dq.kx (kx.mono fun q hq => .inr (.inl hq)),row_kx rS kx hpg⟩)
     have HN:=hid (And.intro hne (And.intro H8.out.old H8.out.side.lt.1))
     clear hd1 rq dq kx hpg hne hgO
     --%L
     go_upto_region 17 with fail
     clear x0 x1 y0 y1 f0 f1 p0 rS
     generalize (w8.setCell ⟨gO,k * 2,none⟩ (.bool s1)).setCell ⟨gO,k * 2 + 1,none⟩ (.slice o1 k1 cp1) = w9 at H9 ⊢
     have p0:=H9.out.2.2.2.2.2.2.cell 0 _ rfl
     have hm1:=marked14_any (some ⟨gl,0,none⟩) n cl r (leftR (ps.take k)) w9 H9.out.2.2.2.1 (by omega) hlt.1
     rw [show (fun j => leftR (ps.take k) j && decide (j ≠ r)) = leftR (ps.take (k + 1)) from funext fun j => by rw [take_snoc hkp,leftR_snoc,HA.out.2.2.2.2.1]] at hm1
     --%M
     go_wp2_with fail
     refine hm1.mono ?_
     rintro e w10 ⟨hk10,gl',cl',hgl',rfl,hbl⟩
     have H10:=hid (And.intro hk10 (And.intro hgl' hbl))
     clear hm1 hk10 hgl' hbl p0
     have K010:=H9.out.1.trans H10.out.1
     have sS:=hid (fun (V:World) (K:Kept w10 V) => show (fun w':World => w'.cell? ⟨pS,0,none⟩ = some (.int .i64 (r:Int))∧w'.cell? ⟨pS,1,none⟩ = some (.int .i64 (c:Int))∧w'.cell? ⟨pS,2,none⟩ = some (.slice (some ⟨mb,mo,none⟩) n sc)∧w'.cell? ⟨mb,mo + r,none⟩ = some (.slice (some ⟨c1,off1,none⟩) n rc)∧w'.cell? ⟨c1,off1 + c * 2,none⟩ = some (.bool s3)∧w'.cell? ⟨c1,off1 + c * 2 + 1,none⟩ = some (.slice o3 k3 cp3)) V from ⟨((H9.out.2.2.2.2.2.2).kept (H10.out.1.trans K)).cell 0 _ rfl,((H9.out.2.2.2.2.2.2).kept (H10.out.1.trans K)).cell 1 _ rfl,((H9.out.2.2.2.2.2.2).kept (H10.out.1.trans K)).cell 2 _ rfl,HA.out.2.1 V (KX.of (K010.trans K)),(HA.out.2.2.1 V (KX.of (K010.trans K))).1,(HA.out.2.2.1 V (KX.of (K010.trans K))).2⟩)
     have HK010:=hid K010
     clear K010
     --%N
     go_upto_region 18 with fail
     have KT:Kept w10 w10.drew:=(Kept.refl _).drew
     refine region_z 11 (S:=fun w' => w'.cell? ⟨pS,0,none⟩ = some (.int .i64 (r:Int))∧w'.cell? ⟨pS,1,none⟩ = some (.int .i64 (c:Int))∧w'.cell? ⟨pS,2,none⟩ = some (.slice (some ⟨mb,mo,none⟩) n sc)∧w'.cell? ⟨mb,mo + r,none⟩ = some (.slice (some ⟨c1,off1,none⟩) n rc)∧w'.cell? ⟨c1,off1 + c * 2,none⟩ = some (.bool s3)∧w'.cell? ⟨c1,off1 + c * 2 + 1,none⟩ = some (.slice o3 k3 cp3)) (by kernel_rfl) (sS.out _ KT) (fun hHeld => ?_)
     generalize hwd:w10.drew = V0 at KT hHeld ⊢
     clear hwd
     have G0:=hid KT
     clear KT
     refine zk 0 hHeld ?_
     refine zk 1 hHeld ?_
     refine zk 2 hHeld ?_
     refine zk 3 hHeld ?_
     refine zk 4 hHeld ?_
     refine zk 5 hHeld ?_
     refine zk 6 hHeld ?_
     refine zk 7 hHeld ?_
     refine zk 8 hHeld ?_
     refine zk 9 hHeld ?_
     refine zr 10 fun K9 hK => ?_
     have hr1':=RowL.alloc 51 V0 [.bool false,.slice none 0 0]
     have hk1':=(Kept.refl V0).alloc (.cells #[.bool false,.slice none 0 0] 51)
     go_simp
     obtain ⟨pp,hpp⟩:∃ p,p = V0.heap.size:=⟨_,rfl⟩
     rw [← hpp] at hr1' ⊢
     have HP:=hid (show w10.heap.size≤pp by rw [hpp]; exact G0.out.size)
     clear hpp
     change RowL 51 (V0.alloc (.cells #[.bool false,.slice none 0 0] 51)) pp _ at hr1'
     generalize V0.alloc (.cells #[.bool false,.slice none 0 0] 51) = V1 at hr1' hk1' ⊢
     have H1:=hid (And.intro (G0.out.trans hk1') (show RowL 51 V1 pp [.bool false,.slice none 0 0] from hr1'))
     refine hK.out _ _ (sS.out _ H1.out.1) (fun hHeld => ?_)
     clear hK hk1' hr1'
     have x0:=H1.out.2.cell 0 _ rfl
     have x1:=H1.out.2.cell 1 _ rfl
     have f0:=H1.out.2.fz 0
     have f1:=H1.out.2.fz 1
     have HE:=hid (And.intro (KX.kept H1.out.1 (box_kx (w:=V1) (p:=pp) (.bool s3) (.slice o3 k3 cp3)) fun q hq => by rw [hq]; exact HP.out) (show RowL 51 _ pp [.bool s3,.slice o3 k3 cp3] from (H1.out.2.set 0 (.bool s3)).set 1 (.slice o3 k3 cp3)))
     refine zl fun K9 hK => ?_
     go_simp
     refine hK.out _ _ ?_
     clear hK x0 x1 f0 f1 hHeld
     refine zd ?_
     generalize (V1.setCell ⟨pp,0,none⟩ (.bool s3)).setCell ⟨pp,1,none⟩ (.slice o3 k3 cp3) = w12 at HE ⊢
     have K912:=H10.out.1.trans HE.out.1
     have hgl9:0 < n→gl' ≠ gs∧gl' ≠ gO∧gl' ≠ pq:=fun h0 => by
      have h1:=H10.out.2.1
      have h2:=H9.out.2.1.lt.2
      have h3:=H9.out.2.2.1.lt.2
      have h4:=H9.out.2.2.2.2.1.lt
      omega
     have HB12:=hid (show Kept W0 w12∧NO (fun q => q = gO ∨ q = pq) W0.heap.size 144 (sideF n M b ps k 0) w12 (.slice (some ⟨gs,0,none⟩) n cs) n∧NO (fun q => q = gs ∨ q = pq) W0.heap.size 144 (ownF n M b ps (k + 1)) w12 (.slice (some ⟨gO,0,none⟩) n n) n ∧
       BLs w12 (some ⟨gl',0,none⟩) n (leftR (ps.take (k + 1)))∧RowL 51 w12 pq [.bool sq,.slice oq kq cq]∧DX (fun q => q = gs ∨ q = gO ∨ q = pq) 144 w12 sq (.slice oq kq cq) (lastP M (ps.take k)) ∧
       RowL 47 w12 pS [.int .i64 (r:Int),.int .i64 (c:Int),.slice (some ⟨mb,mo,none⟩) n sc]∧RowL 51 w12 pp [.bool s3,.slice o3 k3 cp3] from
      ⟨H9.out.1.trans K912,by rw [sideF_0]; exact H9.out.2.1.kept K912,H9.out.2.2.1.kept K912,H10.out.2.2.kept HE.out.1,H9.out.2.2.2.2.1.kept K912,H9.out.2.2.2.2.2.1.kept K912,H9.out.2.2.2.2.2.2.kept K912,HE.out.2⟩)
     have HGL:=hid (And.intro hgl9 (show pp ≠ gs∧pS ≠ gs from ⟨fun e => by
      have h1:=H9.out.2.1.lt.2
      have h2:=H10.out.1.size
      have h3:=HP.out
      omega,fun e => by
      have h1:=H7.out.1.side.lt.2
      have h2:=HPS.out
      omega⟩))
     clear K912 hgl9 sS
     --%O
     go_wp2_with fail
     go_loopw [17] (fun v17 wr => ∃ i:Nat,i≤n∧v17 = .int .i64 (i:Int)∧Hid (KX (fun q => q = gs) w12 wr∧NO (fun q => q = gO ∨ q = pq) W0.heap.size 144 (sideF n M b ps k i) wr (.slice (some ⟨gs,0,none⟩) n cs) n)) (fun v17 _ => n - (intOf v17).toNat)
     case atStart => exact ⟨0,Nat.zero_le _,rfl,KX.refl _,HB12.out.2.1⟩
     case round =>
      obtain ⟨i,hin,rfl,L⟩:=hrel
      generalize wr = w13 at L ⊢
      by_cases hit2:i < n
      ·
       have hii2:(i:Int) < (n:Int):=by omega
       have hi02:(0:Int)≤(i:Int):=by omega
       obtain ⟨b1,o1',e1,hb1,hl1⟩:=(HB12.out.2.2.2.1.kx L.out.1 fun h0 => (HGL.out.1 h0).1) (by omega)
       injection e1 with e1
       injection e1 with e11 e12
       subst e11
       subst e12
       have x0:=hl1 i hit2
       rw [Nat.zero_add] at x0
       obtain ⟨li,hli⟩:∃ x,x = leftR (ps.take (k + 1)) i:=⟨_,rfl⟩
       rw [← hli] at x0
       have HLi:=hid hli
       clear hli hl1 hb1
       cases li with
       | false =>
        have HSt:=hid (show NO (fun q => q = gO ∨ q = pq) W0.heap.size 144 (sideF n M b ps k (i + 1)) w13 (.slice (some ⟨gs,0,none⟩) n cs) n by rw [sideF_stay (sd_stay HF.out.1 hkp HLi.out.symm)]; exact L.out.2)
        --%P
        go_wp2_with fail
        go_roundw
        case rel => exact ⟨i + 1,by omega,by go_num,L.out.1,HSt.out⟩
        case measure => show n - ((i:Int) + 1).toNat < n - (i:Int).toNat; omega
       | true =>
        have hkx:∀ V,Kept w13 V→KX (fun q => w.heap.size≤q) W0 V:=fun V K => ((KX.of HB12.out.1).trans (L.out.1.mono fun q hq => by
         have h1:=HN.out.2.2
         have h2:=HB.out.1.size
         have hq:q = gs:=hq
         show w.heap.size≤q
         omega)).trans (KX.of K)
        obtain ⟨mb',mo',ra2,rc2,em,_,hmc2,hrow2⟩:=HA.out.1.at hit2
        injection em with em
        injection em with em1 em2
        subst em1
        subst em2
        obtain ⟨c2,off2,s4,o4,k4,cp4,rfl,_,_,hcb2,hd4,hk4⟩:=hrow2.at HA.out.2.2.2.2.2.2.2
        obtain ⟨s1,o1,k1,cp1,y0,y1,hd1,hk1⟩:=L.out.2.get hit2
        obtain ⟨s2,o2,k2,cp2,z0,z1,hd2,hk2⟩:=(HB12.out.2.2.1.kx L.out.1 fun q hq => .inl hq).get hkn'
        have rp:=row_kx HB12.out.2.2.2.2.2.2.2 L.out.1 HGL.out.2.1
        have rS:=row_kx HB12.out.2.2.2.2.2.2.1 L.out.1 HGL.out.2.2
        have hlgs:=L.out.2.lt.2
        have hlgO:=(HB12.out.2.2.1.kx L.out.1 fun q hq => .inl hq).lt.2
        have sS:=hid (fun (V:World) (K:Kept w13 V) => show (fun w':World => w'.cell? ⟨pp,0,none⟩ = some (.bool s3)∧w'.cell? ⟨pp,1,none⟩ = some (.slice o3 k3 cp3)∧w'.cell? ⟨gs,i * 2,none⟩ = some (.bool s1)∧w'.cell? ⟨gs,i * 2 + 1,none⟩ = some (.slice o1 k1 cp1)∧w'.cell? ⟨pS,1,none⟩ = some (.int .i64 (c:Int))∧w'.cell? ⟨pS,2,none⟩ = some (.slice (some ⟨mb,mo,none⟩) n sc)∧w'.cell? ⟨mb,mo + i,none⟩ = some (.slice (some ⟨c2,off2,none⟩) n rc2)∧w'.cell? ⟨c2,off2 + c * 2,none⟩ = some (.bool s4)∧w'.cell? ⟨c2,off2 + c * 2 + 1,none⟩ = some (.slice o4 k4 cp4)∧w'.cell? ⟨gO,k * 2,none⟩ = some (.bool s2)∧w'.cell? ⟨gO,k * 2 + 1,none⟩ = some (.slice o2 k2 cp2)) V from ⟨(rp.kept K).cell 0 _ rfl,(rp.kept K).cell 1 _ rfl,(Below.cell K (p:=⟨gs,i * 2,none⟩) hlgs).trans y0,(Below.cell K (p:=⟨gs,i * 2 + 1,none⟩) hlgs).trans y1,(rS.kept K).cell 1 _ rfl,(rS.kept K).cell 2 _ rfl,hmc2 V (hkx V K),(hcb2 V (hkx V K)).1,(hcb2 V (hkx V K)).2,(Below.cell K (p:=⟨gO,k * 2,none⟩) hlgO).trans z0,(Below.cell K (p:=⟨gO,k * 2 + 1,none⟩) hlgO).trans z1⟩)
        have hA9:=(hkx w13 (Kept.refl w13))
        have HX:=hid (And.intro (HA.out.2.2.2.1.kx hA9).1 (And.intro hd1.1 (And.intro (hd4.kx hA9).1 hd2.1)))
        have hleft:=left_less hkp HLi.out.symm
        have hv:sdN n M b ps k i = mF M (ps.take k) r c * sideF n M b ps k i i - mF M (ps.take k) i c * ownF n M b ps (k + 1) k:=by
         unfold sdN ownF
         rw [if_pos (Nat.lt_succ_self k),getD_ps hkp,sideF_at,HA.out.2.2.2.2.1,HA.out.2.2.2.2.2.1,mF_left (row_at HF.out.1.rows hkp),mF_left (leftR_iff.1 hleft),sd_own HF.out.1 hkp]
        have hlim:=sdN_lim (b:=b) HF.out.1 HF.out.2.2.1 HF.out.2.2.2 hkp H7.out.2 hit2 HLi.out.symm
        have HV:=hid (And.intro hv (Nat.lt_trans hlim pow144))
        have hex:Int.tdiv (sdN n M b ps k i) (lastP M (ps.take k)) = sdF n M b (ps.take (k + 1)) i:=by
         rw [sd_exact HF.out.1 hkp HLi.out.symm]
         unfold sdN
         rw [getD_ps hkp]
        have hexl:(sdF n M b (ps.take (k + 1)) i).natAbs < 65536 ^ 144:=by
         rw [← hex,Int.natAbs_tdiv]
         exact Nat.lt_of_le_of_lt (Nat.div_le_self _ _) hlim
        have HEx:=hid (And.intro hex hexl)
        clear hv hlim hex hexl hleft hd1 hd2 hd4 rp rS hmc2 hrow2 hcb2 y0 y1 z0 z1 hkx hA9 hlgs hlgO
        --%Q
        go_upto_region 23 with fail
        clear x0
        go_cut [18] (fun v18 wc => ∃ pv:Nat,v18 = .pointer (some ⟨pv,0,none⟩)∧Hid (Kept w13 wc∧VB wc pv (sdN n M b ps k i)))
        case first =>
         have KT:Kept w13 w13.drew:=(Kept.refl _).drew
         refine region_z 22 (S:=fun w' => w'.cell? ⟨pp,0,none⟩ = some (.bool s3)∧w'.cell? ⟨pp,1,none⟩ = some (.slice o3 k3 cp3)∧w'.cell? ⟨gs,i * 2,none⟩ = some (.bool s1)∧w'.cell? ⟨gs,i * 2 + 1,none⟩ = some (.slice o1 k1 cp1)∧w'.cell? ⟨pS,1,none⟩ = some (.int .i64 (c:Int))∧w'.cell? ⟨pS,2,none⟩ = some (.slice (some ⟨mb,mo,none⟩) n sc)∧w'.cell? ⟨mb,mo + i,none⟩ = some (.slice (some ⟨c2,off2,none⟩) n rc2)∧w'.cell? ⟨c2,off2 + c * 2,none⟩ = some (.bool s4)∧w'.cell? ⟨c2,off2 + c * 2 + 1,none⟩ = some (.slice o4 k4 cp4)∧w'.cell? ⟨gO,k * 2,none⟩ = some (.bool s2)∧w'.cell? ⟨gO,k * 2 + 1,none⟩ = some (.slice o2 k2 cp2)) (by kernel_rfl) (sS.out _ KT) (fun hHeld => ?_)
         generalize hwd:w13.drew = V0 at KT hHeld ⊢
         clear hwd
         have G0:=hid (And.intro KT True.intro)
         clear KT
         refine zk 0 hHeld ?_
         refine zk 1 hHeld ?_
         refine zk 2 hHeld ?_
         refine zk 3 hHeld ?_
         refine zk 4 hHeld ?_
         refine zk 6 hHeld ?_
         refine zk 7 hHeld ?_
         refine zk 8 hHeld ?_
         refine zk 9 hHeld ?_
         refine zk 10 hHeld ?_
         refine zk 11 hHeld ?_
         refine zk 12 hHeld ?_
         refine zk 13 hHeld ?_
         refine zk 14 hHeld ?_
         refine zk 15 hHeld ?_
         refine zk 16 hHeld ?_
         refine zk 17 hHeld ?_
         refine zk 18 hHeld ?_
         refine anyZ_ready (rs:=[5,21]) (by kernel_rfl) (by simp) ?_
         refine AllZ.cons rfl (fun K9 hK => ?_) (AllZ.cons rfl (fun K9 hK => ?_) AllZ.nil)
         ·
          refine ite_want (by kernel_rfl) ?_
          go_simp
          refine (D.Times_any s3 s1 o3 o1 k3 k1 cp3 cp1 _ _ V0 (HX.out.1.kept (G0.out.1)) (HX.out.2.1.kept (G0.out.1)) (by omega) (by omega)).mono ?_
          rintro e V1 ⟨hk1,s5,o5,k5,c5,rfl,hz1,hl5⟩
          have H1:=hid (And.intro ((G0.out.1).trans hk1) hz1)
          refine hK.out _ _ (sS.out _ H1.out.1) (fun hHeld => ?_)
          have T1:=hid hk1
          clear hK hk1 hz1
          refine anyZ_ready (rs:=[19,21]) (by kernel_rfl) (by simp) ?_
          refine AllZ.cons rfl (fun K9 hK => ?_) (AllZ.cons rfl (fun K9 hK => ?_) AllZ.nil)
          ·
           refine ite_want (by kernel_rfl) ?_
           go_simp
           refine (D.Times_any s4 s2 o4 o2 k4 k2 cp4 cp2 _ _ V1 (HX.out.2.2.1.kept (H1.out.1)) (HX.out.2.2.2.kept (H1.out.1)) (by omega) (by omega)).mono ?_
           rintro e V2 ⟨hk2,s6,o6,k6,c6,rfl,hz2,hl19⟩
           have H2:=hid (And.intro ((H1.out.1).trans hk2) hz2)
           refine hK.out _ _ (sS.out _ H2.out.1) (fun hHeld => ?_)
           have T2:=hid hk2
           clear hK hk2 hz2
           refine anyZ_ready (rs:=[20,21]) (by kernel_rfl) (by simp) ?_
           refine AllZ.cons rfl (fun K9 hK => ?_) (AllZ.cons rfl (fun K9 hK => ?_) AllZ.nil)
           ·
            refine ite_want (by kernel_rfl) ?_
            go_simp
            refine (D.Less_any s5 s6 o5 o6 k5 k6 c5 c6 _ _ V2 (((H1.out.2).kept T2.out)) (H2.out.2) (by omega) (by omega)).mono ?_
            rintro e V3 ⟨hk3,s7,o7,k7,c7,rfl,hz3,hl20⟩
            have H3:=hid (And.intro ((H2.out.1).trans hk3) hz3)
            refine hK.out _ _ (sS.out _ H3.out.1) (fun hHeld => ?_)
            have T3:=hid hk3
            clear hK hk3 hz3
            refine zr 21 fun K9 hK => ?_
            have hr4:=RowL.alloc 51 V3 [.bool false,.slice none 0 0]
            have hk4:=(Kept.refl V3).alloc (.cells #[.bool false,.slice none 0 0] 51)
            go_simp
            obtain ⟨pV,hpV⟩:∃ p,p = V3.heap.size:=⟨_,rfl⟩
            rw [← hpV] at hr4 ⊢
            have HP:=hid (show w13.heap.size≤pV by rw [hpV]; exact (H3.out.1).size)
            clear hpV
            change RowL 51 (V3.alloc (.cells #[.bool false,.slice none 0 0] 51)) pV _ at hr4
            generalize V3.alloc (.cells #[.bool false,.slice none 0 0] 51) = V4 at hr4 hk4 ⊢
            have H4:=hid (And.intro ((H3.out.1).trans hk4) (show RowL 51 V4 pV [.bool false,.slice none 0 0] from hr4))
            refine hK.out _ _ (sS.out _ H4.out.1) (fun hHeld => ?_)
            have T4:=hid hk4
            clear hK hk4 hr4
            have hrS:=H4.out.2
            have hzS:=((H3.out.2).kept T4.out)
            have x0:=hrS.cell 0 _ rfl
            have x1:=hrS.cell 1 _ rfl
            have f0:=hrS.fz 0
            have f1:=hrS.fz 1
            have HE:=hid (And.intro (KX.kept (H4.out.1) (box_kx (w:=V4) (p:=pV) (.bool s7) (.slice o7 k7 c7)) fun q hq => by rw [hq]; exact HP.out) (VB.put (z:=sdN n M b ps k i) hrS (by rw [HV.out.1]; exact hzS) (nis_len (z:=sdN n M b ps k i) (by rw [HV.out.1]; exact hzS) HV.out.2)))
            clear hrS hzS
            refine zl fun K9 hK => ?_
            go_simp
            refine hK.out _ _ ?_
            clear hK x0 x1 f0 f1 hHeld
            refine zd ?_
            go_wp2_with fail
            go_meet
            case rel => exact ⟨pV,rfl,HE.out⟩
           ·
            refine ite_want (by kernel_rfl) ?_
            have hr3:=RowL.alloc 51 V2 [.bool false,.slice none 0 0]
            have hk3:=(Kept.refl V2).alloc (.cells #[.bool false,.slice none 0 0] 51)
            go_simp
            obtain ⟨pV,hpV⟩:∃ p,p = V2.heap.size:=⟨_,rfl⟩
            rw [← hpV] at hr3 ⊢
            have HP:=hid (show w13.heap.size≤pV by rw [hpV]; exact (H2.out.1).size)
            clear hpV
            change RowL 51 (V2.alloc (.cells #[.bool false,.slice none 0 0] 51)) pV _ at hr3
            generalize V2.alloc (.cells #[.bool false,.slice none 0 0] 51) = V3 at hr3 hk3 ⊢
            have H3:=hid (And.intro ((H2.out.1).trans hk3) (show RowL 51 V3 pV [.bool false,.slice none 0 0] from hr3))
            refine hK.out _ _ (sS.out _ H3.out.1) (fun hHeld => ?_)
            have T3:=hid hk3
            clear hK hk3 hr3
            refine zr 20 fun K9 hK => ?_
            go_simp
            refine (D.Less_any s5 s6 o5 o6 k5 k6 c5 c6 _ _ V3 (((((H1.out.2).kept T2.out)).kept T3.out)) (((H2.out.2).kept T3.out)) (by omega) (by omega)).mono ?_
            rintro e V4 ⟨hk4,s7,o7,k7,c7,rfl,hz4,hl20⟩
            have H4:=hid (And.intro ((H3.out.1).trans hk4) hz4)
            refine hK.out _ _ (sS.out _ H4.out.1) (fun hHeld => ?_)
            have T4:=hid hk4
            clear hK hk4 hz4
            have hrS:=((H3.out.2).kept T4.out)
            have hzS:=H4.out.2
            have x0:=hrS.cell 0 _ rfl
            have x1:=hrS.cell 1 _ rfl
            have f0:=hrS.fz 0
            have f1:=hrS.fz 1
            have HE:=hid (And.intro (KX.kept (H4.out.1) (box_kx (w:=V4) (p:=pV) (.bool s7) (.slice o7 k7 c7)) fun q hq => by rw [hq]; exact HP.out) (VB.put (z:=sdN n M b ps k i) hrS (by rw [HV.out.1]; exact hzS) (nis_len (z:=sdN n M b ps k i) (by rw [HV.out.1]; exact hzS) HV.out.2)))
            clear hrS hzS
            refine zl fun K9 hK => ?_
            go_simp
            refine hK.out _ _ ?_
            clear hK x0 x1 f0 f1 hHeld
            refine zd ?_
            go_wp2_with fail
            go_meet
            case rel => exact ⟨pV,rfl,HE.out⟩
          ·
           refine ite_want (by kernel_rfl) ?_
           have hr2:=RowL.alloc 51 V1 [.bool false,.slice none 0 0]
           have hk2:=(Kept.refl V1).alloc (.cells #[.bool false,.slice none 0 0] 51)
           go_simp
           obtain ⟨pV,hpV⟩:∃ p,p = V1.heap.size:=⟨_,rfl⟩
           rw [← hpV] at hr2 ⊢
           have HP:=hid (show w13.heap.size≤pV by rw [hpV]; exact (H1.out.1).size)
           clear hpV
           change RowL 51 (V1.alloc (.cells #[.bool false,.slice none 0 0] 51)) pV _ at hr2
           generalize V1.alloc (.cells #[.bool false,.slice none 0 0] 51) = V2 at hr2 hk2 ⊢
           have H2:=hid (And.intro ((H1.out.1).trans hk2) (show RowL 51 V2 pV [.bool false,.slice none 0 0] from hr2))
           refine hK.out _ _ (sS.out _ H2.out.1) (fun hHeld => ?_)
           have T2:=hid hk2
           clear hK hk2 hr2
           refine zr 19 fun K9 hK => ?_
           go_simp
           refine (D.Times_any s4 s2 o4 o2 k4 k2 cp4 cp2 _ _ V2 (HX.out.2.2.1.kept (H2.out.1)) (HX.out.2.2.2.kept (H2.out.1)) (by omega) (by omega)).mono ?_
           rintro e V3 ⟨hk3,s6,o6,k6,c6,rfl,hz3,hl19⟩
           have H3:=hid (And.intro ((H2.out.1).trans hk3) hz3)
           refine hK.out _ _ (sS.out _ H3.out.1) (fun hHeld => ?_)
           have T3:=hid hk3
           clear hK hk3 hz3
           refine zr 20 fun K9 hK => ?_
           go_simp
           refine (D.Less_any s5 s6 o5 o6 k5 k6 c5 c6 _ _ V3 (((((H1.out.2).kept T2.out)).kept T3.out)) (H3.out.2) (by omega) (by omega)).mono ?_
           rintro e V4 ⟨hk4,s7,o7,k7,c7,rfl,hz4,hl20⟩
           have H4:=hid (And.intro ((H3.out.1).trans hk4) hz4)
           refine hK.out _ _ (sS.out _ H4.out.1) (fun hHeld => ?_)
           have T4:=hid hk4
           clear hK hk4 hz4
           have hrS:=((((H2.out.2).kept T3.out)).kept T4.out)
           have hzS:=H4.out.2
           have x0:=hrS.cell 0 _ rfl
           have x1:=hrS.cell 1 _ rfl
           have f0:=hrS.fz 0
           have f1:=hrS.fz 1
           have HE:=hid (And.intro (KX.kept (H4.out.1) (box_kx (w:=V4) (p:=pV) (.bool s7) (.slice o7 k7 c7)) fun q hq => by rw [hq]; exact HP.out) (VB.put (z:=sdN n M b ps k i) hrS (by rw [HV.out.1]; exact hzS) (nis_len (z:=sdN n M b ps k i) (by rw [HV.out.1]; exact hzS) HV.out.2)))
           clear hrS hzS
           refine zl fun K9 hK => ?_
           go_simp
           refine hK.out _ _ ?_
           clear hK x0 x1 f0 f1 hHeld
           refine zd ?_
           go_wp2_with fail
           go_meet
           case rel => exact ⟨pV,rfl,HE.out⟩
         ·
          refine ite_want (by kernel_rfl) ?_
          have hr1:=RowL.alloc 51 V0 [.bool false,.slice none 0 0]
          have hk1:=(Kept.refl V0).alloc (.cells #[.bool false,.slice none 0 0] 51)
          go_simp
          obtain ⟨pV,hpV⟩:∃ p,p = V0.heap.size:=⟨_,rfl⟩
          rw [← hpV] at hr1 ⊢
          have HP:=hid (show w13.heap.size≤pV by rw [hpV]; exact (G0.out.1).size)
          clear hpV
          change RowL 51 (V0.alloc (.cells #[.bool false,.slice none 0 0] 51)) pV _ at hr1
          generalize V0.alloc (.cells #[.bool false,.slice none 0 0] 51) = V1 at hr1 hk1 ⊢
          have H1:=hid (And.intro ((G0.out.1).trans hk1) (show RowL 51 V1 pV [.bool false,.slice none 0 0] from hr1))
          refine hK.out _ _ (sS.out _ H1.out.1) (fun hHeld => ?_)
          have T1:=hid hk1
          clear hK hk1 hr1
          refine zr 5 fun K9 hK => ?_
          go_simp
          refine (D.Times_any s3 s1 o3 o1 k3 k1 cp3 cp1 _ _ V1 (HX.out.1.kept (H1.out.1)) (HX.out.2.1.kept (H1.out.1)) (by omega) (by omega)).mono ?_
          rintro e V2 ⟨hk2,s5,o5,k5,c5,rfl,hz2,hl5⟩
          have H2:=hid (And.intro ((H1.out.1).trans hk2) hz2)
          refine hK.out _ _ (sS.out _ H2.out.1) (fun hHeld => ?_)
          have T2:=hid hk2
          clear hK hk2 hz2
          refine zr 19 fun K9 hK => ?_
          go_simp
          refine (D.Times_any s4 s2 o4 o2 k4 k2 cp4 cp2 _ _ V2 (HX.out.2.2.1.kept (H2.out.1)) (HX.out.2.2.2.kept (H2.out.1)) (by omega) (by omega)).mono ?_
          rintro e V3 ⟨hk3,s6,o6,k6,c6,rfl,hz3,hl19⟩
          have H3:=hid (And.intro ((H2.out.1).trans hk3) hz3)
          refine hK.out _ _ (sS.out _ H3.out.1) (fun hHeld => ?_)
          have T3:=hid hk3
          clear hK hk3 hz3
          refine zr 20 fun K9 hK => ?_
          go_simp
          refine (D.Less_any s5 s6 o5 o6 k5 k6 c5 c6 _ _ V3 (((H2.out.2).kept T3.out)) (H3.out.2) (by omega) (by omega)).mono ?_
          rintro e V4 ⟨hk4,s7,o7,k7,c7,rfl,hz4,hl20⟩
          have H4:=hid (And.intro ((H3.out.1).trans hk4) hz4)
          refine hK.out _ _ (sS.out _ H4.out.1) (fun hHeld => ?_)
          have T4:=hid hk4
          clear hK hk4 hz4
          have hrS:=((((((H1.out.2).kept T2.out)).kept T3.out)).kept T4.out)
          have hzS:=H4.out.2
          have x0:=hrS.cell 0 _ rfl
          have x1:=hrS.cell 1 _ rfl
          have f0:=hrS.fz 0
          have f1:=hrS.fz 1
          have HE:=hid (And.intro (KX.kept (H4.out.1) (box_kx (w:=V4) (p:=pV) (.bool s7) (.slice o7 k7 c7)) fun q hq => by rw [hq]; exact HP.out) (VB.put (z:=sdN n M b ps k i) hrS (by rw [HV.out.1]; exact hzS) (nis_len (z:=sdN n M b ps k i) (by rw [HV.out.1]; exact hzS) HV.out.2)))
          clear hrS hzS
          refine zl fun K9 hK => ?_
          go_simp
          refine hK.out _ _ ?_
          clear hK x0 x1 f0 f1 hHeld
          refine zd ?_
          go_wp2_with fail
          go_meet
          case rel => exact ⟨pV,rfl,HE.out⟩
        case rest =>
        obtain ⟨pv,rfl,C9⟩:=hcut
        generalize wc = w14 at C9 ⊢
        obtain ⟨sv,ov,kv,cv,rv,hzv,hkv⟩:=C9.out.2
        have v0:=rv.cell 0 _ rfl
        have v1:=rv.cell 1 _ rfl
        have hqr:=(row_kx HB12.out.2.2.2.2.1 L.out.1 (fun e => HN.out.1.2.1 e.symm)).kept C9.out.1
        have q0:=hqr.cell 0 _ rfl
        have q1:=hqr.cell 1 _ rfl
        have hdq:=((HB12.out.2.2.2.2.2.1.kx (L.out.1.mono fun q hq => .inl hq)).kept C9.out.1)
        have hkq:kq≤144:=by
         obtain ⟨_,_,_,_,e,hk,_⟩:=hdq
         cases e
         exact hk
        have hdv:=D.Divide_new sv sq ov oq kv kq cv cq _ _ w14 hzv hdq.1 (by omega) (by omega) (last_ne (pivs_take HF.out.1.piv k))
        rw [HEx.out.1] at hdv
        clear rv hzv hqr hdq sS HX HV
        --%R
        go_wp2_with fail
        refine hdv.mono ?_
        rintro e w15 ⟨hk15,s5,o5,k5,c5,t5,o6,k6,c6,rfl,hn5,hn6,hl5,hl6,hnw⟩
        have hno:=(L.out.2.kept C9.out.1).kept hk15
        have hk5:k5≤144:=nis_len hn5 HEx.out.2
        have hdn:=dx_new (A:=fun q => (q = gO ∨ q = pq) ∨ q = gs) (K:=144) hn5 hk5 hnw (fun q hq => by
         have hq:(q = gO ∨ q = pq) ∨ q = gs:=hq
         have h1:=(L.out.2.kept C9.out.1).lt.2
         have h2:=HB12.out.2.2.1.lt.2
         have h3:=HB12.out.2.2.2.2.1.lt
         have h4:=L.out.1.size
         have h5:=C9.out.1.size
         omega)
        obtain ⟨s9,o9,k9,c9,x0,x1,_,_⟩:=hno.get hit2
        have f0:=hno.fz (i * 2)
        have f1:=hno.fz (i * 2 + 1)
        have HE:=hid (show KX (fun q => q = gs) w12 ((w15.setCell ⟨gs,i * 2,none⟩ (.bool s5)).setCell ⟨gs,i * 2 + 1,none⟩ (.slice o5 k5 c5))∧NO (fun q => q = gO ∨ q = pq) W0.heap.size 144 (sideF n M b ps k (i + 1)) ((w15.setCell ⟨gs,i * 2,none⟩ (.bool s5)).setCell ⟨gs,i * 2 + 1,none⟩ (.slice o5 k5 c5)) (.slice (some ⟨gs,0,none⟩) n cs) n from
         ⟨(L.out.1.trans (KX.of (C9.out.1.trans hk15))).trans (put_kx (.bool s5) (.slice o5 k5 c5)),by rw [← sideF_upd]; exact hno.put hit2 hdn⟩)
        clear hdv hk15 hn5 hn6 hl5 hl6 hnw hno hdn hk5 v0 v1 q0 q1
        --%S
        go_wp2_with fail
        go_roundw
        case rel => exact ⟨i + 1,by omega,by go_num,HE.out⟩
        case measure => show n - ((i:Int) + 1).toNat < n - (i:Int).toNat; omega
      ·
       have hii2:¬ (i:Int) < (n:Int):=by omega
       have rp:=row_kx HB12.out.2.2.2.2.2.2.2 L.out.1 HGL.out.2.1
       have p0:=rp.cell 0 _ rfl
       have p1:=rp.cell 1 _ rfl
       have rq:=row_kx HB12.out.2.2.2.2.1 L.out.1 (fun e => HN.out.1.2.1 e.symm)
       have q0:=rq.cell 0 _ rfl
       have q1:=rq.cell 1 _ rfl
       have f0:=rq.fz 0
       have f1:=rq.fz 1
       have kx:=box_kx (w:=w13) (p:=pq) (.bool s3) (.slice o3 k3 cp3)
       have hdp:DX (fun q => q = gs ∨ q = gO ∨ q = pq) 144 w13 s3 (.slice o3 k3 cp3) (lastP M (ps.take (k + 1))):=by
        have e1:lastP M (ps.take (k + 1)) = mF M (ps.take k) r c:=by
         rw [take_snoc hkp,(stg_snoc M (ps.take k) ps[k].1 ps[k].2).2,HA.out.2.2.2.2.1,HA.out.2.2.2.2.2.1,mF_left (row_at HF.out.1.rows hkp)]
        rw [e1]
        have hall:∀ q,(q = gs ∨ q = gO ∨ q = pq)→w.heap.size≤q:=fun q hq => by
         have h1:=HN.out.2.2
         have h2:=HB.out.1.size
         have h3:=HB12.out.2.2.1.lt.1
         have h4:=HN.out.2.1
         omega
        exact (HA.out.2.2.2.1.kx ((KX.of HB12.out.1).trans (L.out.1.mono fun q hq => hall q (.inl hq)))).mono hall (Nat.le_refl _)
       have HE:=hid (show SvS w W0 ((w13.setCell ⟨pq,0,none⟩ (.bool s3)).setCell ⟨pq,1,none⟩ (.slice o3 k3 cp3)) n lm M b ps gs cs gO gl' pq (k + 1) from
        {kept:=KX.kept (KX.kept HB12.out.1 L.out.1 fun q hq => by rw [hq]; exact HN.out.2.2) kx fun q hq => by rw [hq]; exact HN.out.2.1
         side:=((L.out.2.congr fun j hj => by
          have:i = n:=by omega
          rw [this]
          exact sideF_n hj).kx kx fun q hq => .inr hq)
         own:=(HB12.out.2.2.1.kx L.out.1 fun q hq => .inl hq).kx kx fun q hq => .inr hq
         left:=(HB12.out.2.2.2.1.kx L.out.1 fun h0 => (HGL.out.1 h0).1).kx kx fun h0 => (HGL.out.1 h0).2.2
         q:=⟨s3,o3,k3,cp3,(rq.set 0 (.bool s3)).set 1 (.slice o3 k3 cp3),hdp.kx (kx.mono fun q hq => .inr (.inr hq))⟩
         lim:=fun t ht => by
          by_cases e:t = k
          ·
           rw [e]; exact H7.out.2
          ·
           exact H7.out.1.lim t (by omega)
         old:=HN.out.2.1
         far:=HGL.out.1 })
       clear rp rq kx hdp
       --%T
       go_wp2_with fail
       go_roundw
       case rel => exact ⟨k + 1,gl',cl',by omega,rfl,by go_num,HE.out⟩
       case measure => show n + 1 - ((k:Int) + 1).toNat < n + 1 - (k:Int).toNat; omega
end Bp
end Go.Proofs.YtdcgdpbgnijnpaaGreat

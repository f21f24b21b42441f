/- shuntlaw14.BareissTells: its walk. (mk_ft9.py) -/
import Derived.Test.YtdcgdpbgnijnpaaGreatFt17
import Derived.Test.YtdcgdpbgnijnpaaGreatBd2
import Derived.Test.YtdcgdpbgnijnpaaGreatGan
import Derived.Test.YtdcgdpbgnijnpaaGreatGaw
namespace Go.Proofs.YtdcgdpbgnijnpaaGreat
open Go.RowKit
open V (RowL RowL.alloc RowL.lt RowL.cell RowL.fz RowL.kept RowL.block RowL.set RowL.far)
open Sp (hid own_kept own_keptK own_row own_shape info_parts)
open X (zk zr zl zd region_z anyZ_ready AllZ AllZ.cons AllZ.nil)
open Ba (stg lastP pivs leftR leftC wideZ wideM nz facGo facS Fits leftR_iff leftC_iff stg_snoc stg_exact stg_col last_ne pivs_take ext)
open Sy
open Sp (own_cell vrow vrow_at)
open Bm (ZI ZI.kept ZI.of MxR ZsR mxr_at mxr_kept zsr_at zsr_kept mOk)
namespace Bp
theorem kC_all {L:List LE} {n j:Nat} (hj:j < n):kC L n 0 j = (L.getD j l0).cs.map keyE:=by
 unfold kC
 rw [if_pos hj]
theorem cp_mat {n:Nat} {L:List LE} {hs:Nat→Value} {C:Nat→List CE} (hl:n = L.length) (hk:∀ j,j < n→(C j).map keyE = kC L n 0 j):matF (lL n hs C) = matF L:=by
 funext j
 by_cases hj:j < n
 ·
  rw [lL_mat hj]
  exact rowF_key ((hk j hj).trans (kC_all hj))
 ·
  show rowF ((lL n hs C).getD j ⟨none,0,[]⟩).cs = rowF (L.getD j ⟨none,0,[]⟩).cs
  rw [List.getD_eq_getElem?_getD,List.getD_eq_getElem?_getD,List.getElem?_eq_none (by rw [lL_len]; omega),List.getElem?_eq_none (by omega)]
theorem all_rng {L:List LE} {f:List CE→Bool}:L.all (fun r => f r.cs) = (List.range L.length).all fun j => f (L.getD j l0).cs:=by
 rw [Bool.eq_iff_iff,List.all_eq_true,List.all_eq_true]
 constructor
 ·
  intro h j hj
  have hj:=List.mem_range.1 hj
  rw [getD_in hj]
  exact h _ (List.getElem_mem hj)
 ·
  intro h r hr
  obtain ⟨i,hi,rfl⟩:=List.getElem_of_mem hr
  have:=h i (List.mem_range.2 hi)
  rwa [getD_in hi] at this
theorem cp_ok {n:Nat} {L:List LE} {hs:Nat→Value} {C:Nat→List CE} (hl:n = L.length) (hk:∀ j,j < n→(C j).map keyE = kC L n 0 j):mOk (lL n hs C) = mOk L:=by
 unfold mOk
 rw [all_rng (f:=cOk (lL n hs C).length (-1)),all_rng (f:=cOk L.length (-1)),lL_len,← hl]
 congr 1
 rw [Bool.eq_iff_iff,List.all_eq_true,List.all_eq_true]
 have e:∀ j,j < n→cOk n (-1) ((lL n hs C).getD j l0).cs = cOk n (-1) (L.getD j l0).cs:=fun j hj => by
  rw [lL_at hj]
  exact cOk_key ((hk j hj).trans (kC_all hj))
 exact ⟨fun h j hj => by rw [← e j (List.mem_range.1 hj)]; exact h j hj,fun h j hj => by rw [e j (List.mem_range.1 hj)]; exact h j hj⟩
def Ct (w:World) (b:Nat):Prop:=∃ cur fr,w.heap[b]? = some (.cells cur 39 fr)
structure Iv (lo hi:Nat) (W V:World):Prop where
 kx:KX (fun q => lo≤q∧q < hi) W V
 wr:∀ q m,Wr W q m→Wr V q m
 keep:∀ (a:Addr) (u:Value),¬ Lt W a.block→¬ (Ct W a.block∧a.off % 3 = 0)→W.cell? a = some u→V.cell? a = some u
theorem Iv.refl (lo hi:Nat) (W:World):Iv lo hi W W:=⟨KX.refl W,fun _ _ h => h,fun _ _ _ _ h => h⟩
theorem Iv.set {lo hi:Nat} {W V:World} (h:Iv lo hi W V) {p:Addr} (hp:lo≤p.block∧p.block < hi) (hk:Lt W p.block ∨ (Ct W p.block∧p.off % 3 = 0)) (x:Value):Iv lo hi W (V.setCell p x) :=
 ⟨h.kx.setCell (.inl hp) x,fun q m hq => (h.wr q m hq).set p x,fun a u h1 h2 h3 => by
  have hne:p ≠ a:=fun e => by
   rw [e] at hk
   exact hk.elim h1 h2
  exact (show (V.setCell p x).cell? a = V.cell? a by simp [World.cell?_setCell_other,hne]).trans (h.keep a u h1 h2 h3)⟩
theorem own_wr {B:Nat} {w:World} {t:TypeId} {sz n cap g:Nat} {xs:List Value} (h:w.ownsRow B t sz (.slice (some ⟨g,0,none⟩) n cap) n xs):Wr w g (n * sz):=fun j hj => ⟨⟨_,(h.cellAt j hj).trans (List.getElem?_eq_getElem (by rw [h.1]; exact hj))⟩,h.frozenAt j⟩
theorem own_ct {B:Nat} {w:World} {sz n cap g:Nat} {xs:List Value} (h:w.ownsRow B 39 sz (.slice (some ⟨g,0,none⟩) n cap) n xs):Ct w g:=by
 obtain ⟨c,f,h1⟩:=own_block h
 exact ⟨c,f,h1⟩
theorem new_wr {B:Nat} {w:World} {ao:Option Addr} {k cap:Nat} {l:List Nat} (h:New B w (.slice ao k cap) l) (h0:0 < k):∃ b,ao = some ⟨b,0,none⟩∧B≤b∧b < w.heap.size∧Lt w b∧Wr w b k:=by
 obtain ⟨_,⟨e,_⟩ | ⟨b,N,f,e,hB,hN,hr,hf⟩⟩:=h
 ·
  cases e
  exact absurd h0 (Nat.lt_irrefl 0)
 ·
  cases e
  have hr':=hr
  obtain ⟨c,hb,hn,hc⟩:=hr'
  exact ⟨b,rfl,hB,hr.lt,⟨c,_,hb⟩,fun j hj => ⟨⟨_,hr.cell (by omega)⟩,hr.frozen j⟩⟩
set_option maxRecDepth 100000 in
set_option maxHeartbeats 80000000 in
theorem tells14_any (ao bo:Option Addr) (n cap nb capb:Nat) (limbs:Int) (L:List LE) (Bs:List ZE) (w:World) (h:MxR w ao L) (hb:ZsR w bo Bs) (hl:n = L.length) (hlb:nb = Bs.length) (hn:n≤1000000000000000) (hnb:nb≤1000000000000000) (hs:∀ r ∈ L,r.cs.length≤1000000000000000) (hb1:-9223372036854775808≤limbs) (hb2:limbs≤9223372036854775807) :
  Calls Tryz.prog 3 #[.slice ao n cap,.slice bo nb capb,.int .i64 limbs] w fun e w' => Kept w w'∧e = .returned (.bool true):=by
 have HL:=hid (And.intro h (And.intro hb (And.intro hl (And.intro hlb (And.intro hs (And.intro hb1 hb2))))))
 clear h hb hl hlb hs hb1 hb2
 go_enter Tryz.func3,Tryz.ntmps3
 go_wp2_with fail
 refine (awake14_any w).mono ?_
 rintro e w1 ⟨K1,rfl⟩
 have HK:=hid K1
 clear K1
 --%A
 go_wp2_with fail
 refine (Bm.heavy_any ao bo n cap nb capb L Bs w1 (mxr_kept HL.out.1 HK.out) (zsr_kept HL.out.2.1 HK.out) HL.out.2.2.1 HL.out.2.2.2.1 hn hnb HL.out.2.2.2.2.1).mono ?_
 rintro e w2 ⟨hk,bb,rfl,hlt⟩
 have HK:=hid (HK.out.trans hk)
 have HLt:=hid hlt
 clear hk hlt
 cases bb with
 | true =>
  go_wp2_with fail
  go_ret
  exact ⟨HK.out,rfl⟩
 | false =>
 have hLt:=HLt.out rfl
 have hn61:n≤61:=by rw [HL.out.2.2.1]; exact hLt.1
 have hnb61:nb≤61:=by rw [HL.out.2.2.2.1]; exact hLt.2.2.1
 have hszs:∀ r ∈ L,r.cs.length≤60∧∀ c ∈ r.cs,c.val.lim.length≤600:=fun r hr => ⟨(hLt.2.1 r hr).1,fun c hc => by have:=(hLt.2.1 r hr).2 c hc; omega⟩
 have hcp:=copied_any ao n cap L w2 (mxr_kept HL.out.1 HK.out) HL.out.2.2.1 hn61 hszs
 have HSz:=hid hszs
 clear hLt HLt hn hnb hszs
 --%B
 go_wp2_with fail
 refine hcp.mono ?_
 rintro e w3 ⟨g,hs0,C0,rfl,hC⟩
 have hlen:∀ j,j < n→∀ x ∈ C0 j,x.val.lim.length≤600:=fun j hj x hx => by
  have hjL:j < L.length:=by have:=HL.out.2.2.1; omega
  have h1:=hC.keys j hj
  rw [kC_all hj,getD_in hjL] at h1
  have h2:keyE x ∈ (L[j].cs).map keyE:=by rw [← h1]; exact List.mem_map_of_mem hx
  obtain ⟨y,hy,e⟩:=List.mem_map.1 h2
  have h3:=(HSz.out _ (List.getElem_mem hjL)).2 y hy
  have e2:y.val.lim = x.val.lim:=by
   have:=congrArg (fun k => k.2.2) e
   exact this
  rw [← e2]
  exact h3
 have hrl:∀ j,j < n→(C0 j).length≤60:=fun j hj => by
  have hjL:j < L.length:=by have:=HL.out.2.2.1; omega
  have h1:=congrArg List.length (hC.keys j hj)
  rw [List.length_map,kC_all hj,List.length_map,getD_in hjL] at h1
  rw [h1]
  exact (HSz.out _ (List.getElem_mem hjL)).1
 have hMx:MxR w3 (some ⟨g,0,none⟩) (lL n hs0 C0):=hC.grid.mxL fun c hc x hx => ⟨(hC.own c hc x hx).sl,by have:=hlen c hc x hx; omega⟩
 have hmat:=cp_mat (hs:=hs0) HL.out.2.2.1 hC.keys
 have hmok:=cp_ok (hs:=hs0) HL.out.2.2.1 hC.keys
 have hnw:=new_any (some ⟨g,0,none⟩) n n limbs (lL n hs0 C0) w3 hMx (lL_len _ _ _).symm (fun l hl => by
  unfold lL at hl
  obtain ⟨j,hj,rfl⟩:=List.mem_map.1 hl
  exact Nat.le_trans (hrl j (List.mem_range.1 hj)) (by decide)) (by omega) HL.out.2.2.2.2.2.1 HL.out.2.2.2.2.2.2
 have HC:=hid (And.intro hC (And.intro hmat (And.intro hmok (And.intro hrl hlen))))
 clear hcp hC hlen hrl hMx hmat hmok
 --%C
 go_wp2_with fail
 refine hnw.mono ?_
 rintro e w4 ⟨hk4,hN⟩
 rw [HC.out.2.1,HC.out.2.2.1] at hN
 have hK4:=HK.out.trans (HC.out.1.kept.trans hk4)
 have hfc:=factored14_any ao n cap limbs L w4 (mxr_kept HL.out.1 hK4) HL.out.2.2.1 (fun l hl => Nat.le_trans (HSz.out l hl).1 (by decide)) (by omega) HL.out.2.2.2.2.2.1 HL.out.2.2.2.2.2.2
 have HK4:=hid (And.intro hK4 hk4)
 clear hnw hk4 hK4
 rcases hN with ⟨hok,rfl⟩ | ⟨hok,hlm,rfl⟩ | ⟨hok,hlm,ps,er,hfs,hft,hx⟩
 ·
  --%D
  go_wp2_with fail
  refine hfc.mono ?_
  rintro e w5 ⟨hk5,⟨_,rfl⟩ | ⟨h1,_⟩ | ⟨h1,_⟩⟩
  ·
   have HK5:=hid (HK4.out.1.trans hk5)
   clear hfc hk5
   --%D1
   go_wp2_with fail
   go_ret
   exact ⟨HK5.out,rfl⟩
  ·
   rw [hok] at h1; cases h1
  ·
   rw [hok] at h1; cases h1
 ·
  --%E
  go_wp2_with fail
  refine hfc.mono ?_
  rintro e w5 ⟨hk5,⟨h1,_⟩ | ⟨_,_,rfl⟩ | ⟨_,h1,_⟩⟩
  ·
   rw [hok] at h1; cases h1
  ·
   have HK5:=hid (HK4.out.1.trans hk5)
   clear hfc hk5
   --%E1
   go_wp2_with fail
   go_ret
   exact ⟨HK5.out,rfl⟩
  ·
   omega
 have HF0:=hid (And.intro hok (And.intro hlm (And.intro hfs hft)))
 have hne13:er = 0 ∨ er = 13 ∨ er = 140:=by
  obtain ⟨qs,e,h1,_,h2⟩:=Ba.fac_is (n:=n) (limbs:=limbs.toNat) (M:=matF L)
  rw [hfs] at h1
  injection h1 with _ h1
  rcases h2 with ⟨h2,_⟩ | ⟨h2,_⟩ | ⟨h2,_⟩ <;> omega
 rcases hx with ⟨hne,rfl⟩ | ⟨h0,fb,sa,sk,sc,Ss,rfl,hF⟩
 ·
  have HNe:=hid (And.intro hne hne13)
  have hne1:¬ er = 0:=hne
  have hne2:(er == 0) = false:=by simpa using hne
  have hne3:(er != 0) = true:=by simp [bne,hne2]
  clear hfs hft hok hlm hne hne13
  --%F
  go_wp2_with fail
  refine hfc.mono ?_
  rintro e w5 ⟨hk5,⟨h1,_⟩ | ⟨_,h1,_⟩ | ⟨_,_,qs,e5,v,h1,rfl,hsg⟩⟩
  ·
   rw [HF0.out.1] at h1; cases h1
  ·
   have:=HF0.out.2.1; omega
  ·
   rw [HF0.out.2.2.1] at h1
   injection h1 with h11 h12
   subst h11
   subst h12
   obtain ⟨lo,lc,rfl,_⟩:=hsg
   have HK5:=hid (HK4.out.1.trans hk5)
   clear hfc hk5
   --%F1
   go_wp2_with fail
   go_ret
   exact ⟨HK5.out,rfl⟩
 ·
  subst h0
  have hsk:sk = n:=by rw [hF.len,fac0_len hfs]
  subst hsk
  have hn48:sk≤48:=by
   unfold mOk at hok
   rw [Bool.and_eq_true,decide_eq_true_eq] at hok
   rw [HL.out.2.2.1]
   exact hok.1
  obtain ⟨lm,rfl⟩:∃ lm:Nat,limbs = (lm:Int):=⟨limbs.toNat,by omega⟩
  rw [Int.toNat_natCast] at hfs hF
  have HF:=hid (show Fits sk (matF L) ps∧ps.length = sk∧facS sk lm (matF L) = (ps,0)∧lm≤32 from ⟨hft,fac0_len hfs,hfs,by omega⟩)
  have HFc:=hid hF
  have hpl:=fac0_len hfs
  have HOk:=hid (And.intro hok hlm)
  clear hfs hft hok hF HF0 hne13 hn61
  --%G
  go_wp2_with fail
  refine hfc.mono ?_
  rintro e w5 ⟨hk5,⟨h1,_⟩ | ⟨_,h1,_⟩ | ⟨_,_,qs,e5,v,h1,rfl,hsg⟩⟩
  ·
   rw [HOk.out.1] at h1; cases h1
  ·
   have:=HOk.out.2
   omega
  rw [Int.toNat_natCast,HF.out.2.2.1] at h1
  injection h1 with h11 h12
  subst h11
  subst h12
  obtain ⟨lo,lc,rfl⟩:∃ lo lc,v = .slice lo sk lc:=by
   obtain ⟨lo,lc,e,_⟩:=hsg
   exact ⟨lo,lc,by rw [e,hpl]⟩
  have HK5:=hid (And.intro (HK4.out.1.trans hk5) (And.intro (HFc.out.kept hk5) (And.intro hsg hk5)))
  clear hfc hk5 hsg hpl
  have K35:=HK4.out.2.trans HK5.out.2.2.2
  have HG:=hid (HC.out.1.later K35)
  have HB5:=hid (fun j (hj:j < sk) => (show (hs0 j).ownBlock = none ∨ True from .inr trivial))
  have hszs5:w2.heap.size≤w3.heap.size∧w3.heap.size≤w5.heap.size:=⟨HC.out.1.kept.size,K35.size⟩
  have HSz5:=hid hszs5
  clear hszs5 K35 HB5
  --%H
  go_wp2_with fail
  rename_i K26 hR26
  have HR26:=hid hR26
  clear hR26
  go_loopw [13,70] (fun _ v70 wr => ∃ i:Nat,i≤sk∧v70 = .int .i64 (i:Int)∧Hid (Iv w2.heap.size w3.heap.size w5 wr)) (fun _ v70 _ => sk - (intOf v70).toNat)
  case atStart => exact ⟨0,Nat.zero_le _,rfl,Iv.refl _ _ _⟩
  case round =>
   obtain ⟨i,hi,rfl,J⟩:=hrel
   generalize wr = w6 at J ⊢
   by_cases hit:i < sk
   ·
    have hii:(i:Int) < (sk:Int):=by omega
    have hi0:(0:Int)≤(i:Int):=by omega
    have ho:=HG.out.grid.own i hit
    obtain ⟨ra,rc,hra⟩:=own_shape ho
    have rg:=HG.out.grid.row
    have hgn:¬ Lt w5 g:=row_not rg (by decide)
    have hgc:¬ Ct w5 g:=fun ⟨cur,fr,hb⟩ => by
     obtain ⟨c',h4,_⟩:=rg
     rw [h4] at hb
     injection hb with hb
     injection hb with _ e2
     exact absurd e2 (by decide)
    have hx0:=hid (fun (V:World) (h:Iv w2.heap.size w3.heap.size w5 V) => show V.cell? ⟨g,i,none⟩ = some (.slice ra (C0 i).length rc) from h.keep ⟨g,i,none⟩ _ hgn (fun hh => hgc hh.1) (by rw [← hra]; exact rg.cell i _ (vrow_at hit)))
    have hcs:=own_cs ho (fun x hx => show x.val.ok w5 from ⟨(HG.out.own i hit x hx).sl,by have:=HC.out.2.2.2.2 i hit x hx; omega⟩)
    have ho3:=HC.out.1.grid.own i hit
    rw [hra] at ho ho3 hcs
    have HO:=hid ho
    have HO3:=hid ho3
    have HCs:=hid (show CsR w5 ra (C0 i) from hcs)
    clear ho rg hgn hgc hra ho3 hcs
    have x0:=hx0.out w6 J.out
    have hr60:=HC.out.2.2.2.1 i hit
    obtain ⟨rl,hrl⟩:∃ x,x = (C0 i).length:=⟨_,rfl⟩
    rw [← hrl] at hx0 x0 hr60
    have HRl:=hid hrl
    clear hrl
    --%I
    go_wp2_with fail
    clear x0
    go_loopw [14,78] (fun _ v78 wr => ∃ k:Nat,k≤rl∧v78 = .int .i64 (k:Int)∧Hid (Iv w2.heap.size w3.heap.size w5 wr)) (fun _ v78 _ => rl - (intOf v78).toNat)
    case atStart => exact ⟨0,Nat.zero_le _,rfl,J.out⟩
    case round =>
     obtain ⟨k,hk,rfl,M9⟩:=hrel
     generalize wr = w7 at M9 ⊢
     by_cases hkt:k < rl
     ·
      have hkk:(k:Int) < (rl:Int):=by omega
      have hk0:(0:Int)≤(k:Int):=by omega
      have hkC:k < (C0 i).length:=by have:=HRl.out; omega
      obtain ⟨gi,cpi,egi,hg1,hg2,_⟩:=own_cell HO.out (by omega)
      cases egi
      have hg3:=World.ownsRow.lt HO3.out gi rfl
      have hct:=own_ct HO.out
      have hlt:¬ Lt w5 gi:=own_not HO.out (by decide)
      obtain ⟨b2,o2,yy,mm,zo,zc,zl,e2,hce,hcb,_⟩:=Bm.cel_at HCs.out hkC
      injection e2 with e2
      injection e2 with e21 e22
      subst e21
      subst e22
      have hx5:=(hcb w5 (Kept.refl _)).2.2
      rw [Nat.zero_add] at hx5
      obtain ⟨zk,hzk⟩:∃ x,x = zl.length:=⟨_,rfl⟩
      rw [← hzk] at hx5
      have hx1:=hid (fun (V:World) (h:Iv w2.heap.size w3.heap.size w5 V) => show V.cell? ⟨gi,k * 3 + 2,none⟩ = some (.slice zo zk zc) from h.keep ⟨gi,k * 3 + 2,none⟩ _ hlt (fun hh => by have:=hh.2; simp at this) hx5)
      have hmem:(C0 i)[k] ∈ C0 i:=List.getElem_mem hkC
      have hn3:=HC.out.1.own i hit _ hmem
      have hn5:=HG.out.own i hit _ hmem
      have hz6:=HC.out.2.2.2.2 i hit _ hmem
      rw [hce] at hn3 hn5 hz6
      have hzk6:zk≤600:=by rw [hzk]; exact hz6
      have hn3:New w2.heap.size w3 (.slice zo zk zc) zl:=by rw [hzk]; exact hn3
      have hn5:New w2.heap.size w5 (.slice zo zk zc) zl:=by rw [hzk]; exact hn5
      have HN5:=hid (And.intro hn3 hn5)
      have x0:=hx0.out w7 M9.out
      obtain ⟨⟨v9,y0⟩,f0⟩:=M9.out.wr gi _ (own_wr HO.out) (k * 3) (by omega)
      have hI:=M9.out.set (p:=⟨gi,k * 3,none⟩) hg3 (.inr ⟨hct,by simp⟩) (.int .i64 0)
      have HI:=hid hI
      clear hce hcb hx5 hzk hmem hn3 hn5 hz6 hct hlt hI hg3
      --%K
      go_upto_region 19 with fail
      clear x0 y0 f0
      generalize w7.setCell ⟨gi,k * 3,none⟩ (.int .i64 0) = w8 at HI ⊢
      have x0:=hx0.out w8 HI.out
      have x1:=hx1.out w8 HI.out
      --%L
      go_wp2_with fail
      clear x0 x1
      go_loopw [15,98] (fun _ v98 wr => ∃ j:Nat,j≤zk∧v98 = .int .i64 (j:Int)∧Hid (Iv w2.heap.size w3.heap.size w5 wr)) (fun _ v98 _ => zk - (intOf v98).toNat)
      case atStart => exact ⟨0,Nat.zero_le _,rfl,HI.out⟩
      case round =>
       obtain ⟨j,hj,rfl,P9⟩:=hrel
       generalize wr = w9 at P9 ⊢
       have x0:=hx0.out w9 P9.out
       have x1:=hx1.out w9 P9.out
       by_cases hjt:j < zk
       ·
        have hjj:(j:Int) < (zk:Int):=by omega
        have hj0:(0:Int)≤(j:Int):=by omega
        obtain ⟨b,rfl,hb1,hb2,_,_⟩:=new_wr HN5.out.1 (by omega)
        obtain ⟨b',e',_,_,hb3,hb4⟩:=new_wr HN5.out.2 (by omega)
        injection e' with e'
        injection e' with e'
        subst e'
        obtain ⟨⟨v8,y0⟩,f0⟩:=P9.out.wr b zk hb4 j hjt
        have HE:=hid (P9.out.set (p:=⟨b,j,none⟩) ⟨hb1,hb2⟩ (.inl hb3) (.int .u32 3))
        clear hb1 hb2 hb3 hb4
        --%M
        go_wp2_with fail
        go_roundw
        case rel => exact ⟨j + 1,by omega,by go_num,HE.out⟩
        case measure => show zk - ((j:Int) + 1).toNat < zk - (j:Int).toNat; omega
       ·
        have hjj:¬ (j:Int) < (zk:Int):=by omega
        --%N
        go_wp2_with fail
        go_roundw
        case rel => exact ⟨k + 1,by omega,by go_num,P9.out⟩
        case measure => show rl - ((k:Int) + 1).toNat < rl - (k:Int).toNat; omega
     ·
      have hkk:¬ (k:Int) < (rl:Int):=by omega
      --%J
      go_wp2_with fail
      go_roundw
      case rel => exact ⟨i + 1,by omega,by go_num,M9.out⟩
      case measure => show sk - ((i:Int) + 1).toNat < sk - (i:Int).toNat; omega
   ·
    have hii:¬ (i:Int) < (sk:Int):=by omega
    --%Z
    go_wp2_with fail
    refine HR26.out _ _ ?_
    have hT:=hid (show Kept w w6∧FacR w3.heap.size w6 fb sk lm sa sk sc Ss (matF L) ps∧SgR (fun _ => False) sk (matF L) ps w6 (.slice lo sk lc) from
     ⟨KX.kept HK5.out.1 J.out.kx fun q hq => Nat.le_trans HK.out.size hq.1,HK5.out.2.1.low J.out.kx fun q hq => hq.2,(HK5.out.2.2.1.kx (J.out.kx.mono fun q hq => Nat.lt_of_lt_of_le hq.2 HK4.out.2.size)).mono fun q hq => hq.elim⟩)
    have hZB:=hid (show ZsR w bo Bs∧nb = Bs.length∧nb≤61 from ⟨HL.out.2.1,HL.out.2.2.2.1,hnb61⟩)
    exact tells_tail4 (B:=w3.heap.size) hn48 HF hZB hT
end Bp
end Go.Proofs.YtdcgdpbgnijnpaaGreat

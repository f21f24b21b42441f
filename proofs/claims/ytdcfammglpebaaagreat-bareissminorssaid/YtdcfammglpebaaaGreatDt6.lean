/- shuntref14.Det: its walk from the first product on. (mk_dt6.py) -/
import Derived.Test.YtdcfammglpebaaaGreatGaz
import Derived.Test.YtdcfammglpebaaaGreatGad
import Derived.Test.YtdcfammglpebaaaGreatGak
namespace Go.Proofs.YtdcfammglpebaaaGreat
open Go.RowKit
open V (RowL RowL.alloc RowL.lt RowL.cell RowL.fz RowL.kept RowL.block RowL.set RowL.far)
open Sp (hid own_kept own_keptK own_shape info_parts)
open X (zk zr zl zd region_z anyZ_ready AllZ AllZ.cons AllZ.nil)
open Ba (stg lastP pivs Fits cast tr2)
open F (Low)
namespace Bp
def OneF (w':World) (e:Ending):Prop:=∃ s ao k c t bo l d,e = .returned (.agg #[.bool s,.slice ao k c,.bool t,.slice bo l d])∧D.NIs w' s (.slice ao k c) 1∧D.NIs w' t (.slice bo l d) 1∧k≤7000∧l≤7000
set_option maxRecDepth 100000 in
set_option maxHeartbeats 4000000 in
theorem of_one (w:World):Calls Tryz.prog 52 #[.int .i64 1] w fun e w' => Kept w w'∧OneF w' e:=by
 go_enter Tryz.func52,Tryz.ntmps52
 have r:=RowL.alloc 111 w [.bool false,.slice none 0 0,.bool false,.slice none 0 0]
 have k0:=(Kept.refl w).alloc (.cells #[.bool false,.slice none 0 0,.bool false,.slice none 0 0] 111)
 go_upto_region 1 with fail
 generalize w.alloc (.cells #[.bool false,.slice none 0 0,.bool false,.slice none 0 0] 111) = w1 at r k0 ⊢
 obtain ⟨p,hp⟩:∃ p,p = w.heap.size:=⟨_,rfl⟩
 rw [← hp] at r ⊢
 have hpw:=hid (show w.heap.size≤p by rw [hp]; exact Nat.le_refl _)
 clear hp
 go_wp2_with fail
 refine (D.wide_any 1 w1 (by decide) (by decide)).mono ?_
 rintro e w2 ⟨hk,s,ao,k,c,rfl,h1,hl⟩
 go_wp2_with fail
 refine (small_one w2).mono ?_
 rintro e w3 ⟨hk2,bo,l,d,rfl,h2,hl2⟩
 have r3:=r.kept (hk.trans hk2)
 have K3:=k0.trans (hk.trans hk2)
 have x0:=r3.cell 0 _ rfl
 have x1:=r3.cell 1 _ rfl
 have x2:=r3.cell 2 _ rfl
 have x3:=r3.cell 3 _ rfl
 have f0:=r3.fz 0
 have f1:=r3.fz 1
 have f2:=r3.fz 2
 have f3:=r3.fz 3
 have n3:NX w3 (put4' w3 p 0 s (.slice ao k c) false (.slice bo l d)):=(FC.put (N:=0) (Q:=0) ⟨false,none,0,0,false,none,0,0,x0,x1,x2,x3,⟨[],D.Sl.nil _ none 0,⟨D.Bd_nil,(.inl rfl),fun _ => rfl⟩,rfl⟩,⟨[],D.Sl.nil _ none 0,⟨D.Bd_nil,(.inl rfl),fun _ => rfl⟩,rfl⟩,by decide,by decide⟩).1
 have HF:=hid (And.intro (show Kept w (put4' w3 p 0 s (.slice ao k c) false (.slice bo l d)) from KX.kept K3 put4_kx fun q hq => by rw [hq]; exact hpw.out) (And.intro (n3 _ _ _ (h1.kept hk2)) (And.intro (n3 _ _ _ h2) (And.intro (show k≤7000 by omega) (show l≤7000 by omega)))))
 clear h1 h2 hk hk2 r3 K3 r k0 n3 hl hl2
 go_wp2
 exact bodyPost_ret (v:=.agg #[.bool s,.slice ao k c,.bool false,.slice bo l d]) (by simp [results,Tryz.results52,go_sem,x0,x1,x2,x3]) rfl ⟨HF.out.1,s,ao,k,c,false,bo,l,d,rfl,HF.out.2.1,HF.out.2.2.1,HF.out.2.2.2.1,HF.out.2.2.2.2⟩
def DetIs (n:Nat) (M:Nat→Nat→Int) (w':World) (e:Ending):Prop:=∃ s ao k c z,e = .returned (.agg #[.bool s,.slice ao k c])∧D.NIs w' s (.slice ao k c) z∧((z:Int):Rat) = Ba.det n (cast M)∧k≤7000
set_option maxRecDepth 100000 in
set_option maxHeartbeats 80000000 in
theorem det14_tail {so go:Option Addr} {n sc cap pR pd:Nat} {M:Nat→Nat→Int} {w wB w3:World} {u1 u5 u6 u7 u9 u10 u11 u12 u13 u14 u15 u16 u17 u18 u19 u20 u21 u22 u23 u24 u25 u26 u27 u28 u29 u30 u31 u32 u33 u34 u35 u36 u37 u38 u39 u40 u41 u42 u43 u44 u45 u46 u47 u48 u49 u50 u51 u52 u53 u54 u55 u56 u57 u58 u59 u60 u61 u62 u63 u64 u65 u66 u67 u68 u69 u70 u71 u72 u73 u74 u75 u76 u77 u78 u79 u80 u81 u82 u83 u84 u85 u86 u87 u88 u89 u90 u91 u92 u93 u94 u95 u96 u97 u98 u99 u100 u101 u102 u103 u104 u105 u106 u107 u108 u109 u110 u111 u112 u113 u114 u115 u116 u117 u118 u119 u120 u121 u122 u123 u124 u125 u126 u127 u128 u129 u130 u131 u132 u133 u134 u135 u136 u137 u138 u139 u140 u141 u142 u143 u144 u145 u146 u147 u148 u149 u150 u151 u152 u153 u154:Value}
  (HF:Hid (Few n M)) (hn:n≤48) (HB:Hid (Kept w wB∧RowL 51 wB pR [.bool false,.slice none 0 0]∧w.heap.size≤pR)) (H3:Hid (Kept wB w3∧FB w3 pd 1 1∧(0 < n→∃ g bk cp Z,go = some ⟨g,0,none⟩∧DS wB w3 n 0 M g pd id 1 1 bk cp Z))) :
  (tailF Tryz.f21 13).wp Tryz.prog (bodyPost Tryz.prog Tryz.f21 fun e w' => Kept w w'∧DetIs n M w' e) ⟨((.slice so n sc) :: u1 :: (.pointer (some ⟨pR,0,none⟩)) :: (.int .i64 (n:Int)) :: (.slice go n cap) :: u5 :: u6 :: u7 :: (.pointer (some ⟨pd,0,none⟩)) :: u9 :: u10 :: u11 :: u12 :: u13 :: u14 :: u15 :: u16 :: u17 :: u18 :: u19 :: u20 :: u21 :: u22 :: u23 :: u24 :: u25 :: u26 :: u27 :: u28 :: u29 :: u30 :: u31 :: u32 :: u33 :: u34 :: u35 :: u36 :: u37 :: u38 :: u39 :: u40 :: u41 :: u42 :: u43 :: u44 :: u45 :: u46 :: u47 :: u48 :: u49 :: u50 :: u51 :: u52 :: u53 :: u54 :: u55 :: u56 :: u57 :: u58 :: u59 :: u60 :: u61 :: u62 :: u63 :: u64 :: u65 :: u66 :: u67 :: u68 :: u69 :: u70 :: u71 :: u72 :: u73 :: u74 :: u75 :: u76 :: u77 :: u78 :: u79 :: u80 :: u81 :: u82 :: u83 :: u84 :: u85 :: u86 :: u87 :: u88 :: u89 :: u90 :: u91 :: u92 :: u93 :: u94 :: u95 :: u96 :: u97 :: u98 :: u99 :: u100 :: u101 :: u102 :: u103 :: u104 :: u105 :: u106 :: u107 :: u108 :: u109 :: u110 :: u111 :: u112 :: u113 :: u114 :: u115 :: u116 :: u117 :: u118 :: u119 :: u120 :: u121 :: u122 :: u123 :: u124 :: u125 :: u126 :: u127 :: u128 :: u129 :: u130 :: u131 :: u132 :: u133 :: u134 :: u135 :: u136 :: u137 :: u138 :: u139 :: u140 :: u141 :: u142 :: u143 :: u144 :: u145 :: u146 :: u147 :: u148 :: u149 :: u150 :: u151 :: u152 :: u153 :: u154 :: []).toArray,[]⟩ w3:=by
 conv =>
  arg 2
  whnf
 --%B
 go_wp2_with fail
 go_loopw [9] (fun v9 wr => ∃ k:Nat,k≤n∧v9 = .int .i64 (k:Int)∧Hid (Kept wB wr∧∃ f s,DtI n M k f s∧FB wr pd (s * lastP M (psOf f k)) 1∧(0 < n→∃ g bk cp Z,go = some ⟨g,0,none⟩∧DS wB wr n k M g pd f s (s * lastP M (psOf f k)) bk cp Z))) (fun v9 _ => n - (intOf v9).toNat)
 case atStart => exact ⟨0,Nat.zero_le _,rfl,H3.out.1,id,1,DtI.start n M,H3.out.2.1,H3.out.2.2⟩
 case round =>
  clear H3
  obtain ⟨k,hkn,rfl,J⟩:=hrel
  generalize wr = w4 at J ⊢
  by_cases hkt:k < n
  ·
   have hkk:(k:Int) < (n:Int):=by omega
   have hk0:(0:Int)≤(k:Int):=by omega
   obtain ⟨hK4,f,s,_,_,hG⟩:=J.out
   obtain ⟨g,bk,cp,Z,rfl,hDS⟩:=hG (by omega)
   have H4:=hid (And.intro hK4 hDS)
   clear hK4 hDS hG
   --%C
   go_wp2_with fail
   go_loopw [10] (fun v10 wr => ∃ q:Nat,k≤q∧q≤n∧v10 = .int .i64 (q:Int)∧Hid (Kept w4 wr∧∀ i,k≤i→i < q→stg M (psOf f k) (f i) k = 0)) (fun v10 _ => n - (intOf v10).toNat)
   case atStart => exact ⟨k,Nat.le_refl _,hkn,rfl,Kept.refl _,fun i h1 h2 => by omega⟩
   case round =>
    obtain ⟨q,hkq,hqn,rfl,R⟩:=hrel
    generalize wr = w5 at R ⊢
    by_cases hqt:q < n
    ·
     have hqq:(q:Int) < (n:Int):=by omega
     have hq0:(0:Int)≤(q:Int):=by omega
     have hDS:=H4.out.2.later R.out.1
     have c0:=hDS.grid.head q hqt
     obtain ⟨s1,a1,k1,c1,t1,b1,l1,d1,x0,x1,x2,x3,n1,n2,m1,m2⟩:=hDS.grid.cell q k hqt hkt
     have hlow:=hDS.cell q k hkq hqt (Nat.le_refl _) hkt
     have HC:=hid (And.intro hDS (And.intro n1 (And.intro hlow m1)))
     clear hDS n1 n2 hlow
     --%D
     go_wp2_with fail
     refine (F.FSign_big s1 t1 a1 b1 k1 c1 l1 d1 _ w5 HC.out.2.1 (by omega)).mono ?_
     rintro e w6 ⟨hk6,rfl⟩
     obtain ⟨sg,hsg⟩:∃ x,x = isgn (Z q k).1 0:=⟨_,rfl⟩
     rw [← hsg]
     have H6:=hid (R.out.1.trans hk6)
     clear hk6 x0 x1 x2 x3 c0
     by_cases hz:(Z q k).1 = 0
     ·
      have e1:sg = 0:=by rw [hsg,hz]; decide
      have e2:(sg == 0) = true:=by simp [e1]
      have hst:=(low_zero HC.out.2.2.1 (Ba.last_ne HC.out.1.inv.piv)).1 hz
      have HSt:=hid hst
      clear hsg hst
      --%E
      go_wp2_with fail
      go_roundw
      case rel => exact ⟨q + 1,by omega,by omega,by go_num,H6.out,fun i h1 h2 => by
        by_cases e:i = q
        ·
         subst e; exact HSt.out
        ·
         exact R.out.2 i h1 (by omega)⟩
      case measure => show n - ((q:Int) + 1).toNat < n - (q:Int).toNat; omega
     ·
      have e1:sg ≠ 0:=by
       rw [hsg]
       unfold isgn
       split
       ·
        decide
       ·
        first | decide | (rw [if_neg hz]; decide)
      have e2:(sg == 0) = false:=by simpa using e1
      have hst:stg M (psOf f k) (f q) k ≠ 0:=fun e => hz ((low_zero HC.out.2.2.1 (Ba.last_ne HC.out.1.inv.piv)).2 e)
      have HSt:=hid hst
      have H6:=hid (And.intro (H4.out.1.trans H6.out) (H4.out.2.later H6.out))
      have hqn2:¬ (q:Int) = (n:Int):=by omega
      have hqn3:((q:Int) == (n:Int)) = false:=by simpa using hqn2
      clear hsg hst HC R
      --%F
      go_upto_if 71 with fail
      go_cut [] (fun wc => Hid (Kept wB wc∧∃ f s bk cp Z,DS wB wc n k M g pd f s (s * lastP M (psOf f k)) bk cp Z∧stg M (psOf f k) (f k) k ≠ 0))
      case first =>
       by_cases hqk:q = k
       ·
        subst hqk
        have e5:((q:Int) == (q:Int)) = true:=by simp
        have e6:((q:Int) != (q:Int)) = false:=by simp
        --%G
        go_wp2_with fail
        go_meet
        case rel => exact ⟨H6.out.1,f,s,bk,cp,Z,H6.out.2,HSt.out⟩
       ·
        have e5:¬ (q:Int) = (k:Int):=by omega
        have e5':((q:Int) == (k:Int)) = false:=by simpa using e5
        have e6:((q:Int) != (k:Int)) = true:=by simp [bne,e5']
        --%H
        go_upto_region 22 with fail
        go_cut [] (fun wc => Hid (Kept wB wc∧DS wB wc n k M g pd (fun a => f (tr2 q k a)) (-s) (s * lastP M (psOf f k)) (fun i => bk (tr2 q k i)) (fun i => cp (tr2 q k i)) (fun i => Z (tr2 q k i))))
        case first =>
         --%H1
         have KT:Kept w6 w6.drew:=(Kept.refl _).drew
         have hDS:=H6.out.2.later KT
         have cP:=hDS.grid.head q hqt
         have cQ:=hDS.grid.head k hkt
         have fG:=hDS.grid.hfz
         have fP:=fG q
         have fQ:=fG k
         have HD:=hid hDS
         clear fG hDS
         refine wp_region_held_drew (S:=fun _ => True) (by kernel_rfl) trivial (fun hHeld => ?_)
         generalize w6.drew = Wd at cP cQ fP fQ HD hHeld ⊢
         refine wk 0 hHeld ?_
         refine wk 1 hHeld ?_
         refine wk 2 hHeld ?_
         refine wk 3 hHeld ?_
         refine wk 4 hHeld ?_
         refine wk 5 hHeld ?_
         refine wk 6 hHeld ?_
         refine wk 8 hHeld ?_
         refine wk 9 hHeld ?_
         refine wk 10 hHeld ?_
         have HE:=hid (fun (W2:World) (e:W2 = (Wd.setCell ⟨g,q,none⟩ (.slice (some ⟨bk k,0,none⟩) n (cp k))).setCell ⟨g,k,none⟩ (.slice (some ⟨bk q,0,none⟩) n (cp q))) => show Kept wB W2∧DS wB W2 n k M g pd (fun a => f (tr2 q k a)) (-s) (s * lastP M (psOf f k)) (fun i => bk (tr2 q k i)) (fun i => cp (tr2 q k i)) (fun i => Z (tr2 q k i)) from by
          have:=HD.out.swap hkq hqt hqk
          rw [e]
          exact ⟨this.grid.kept,this⟩)
         refine wpAnyH_ready (rs:=[7,11]) (by kernel_rfl) (by simp) ?_
         refine AllReadyH.cons rfl (fun K hK => ?_) (AllReadyH.cons rfl (fun K hK => ?_) AllReadyH.nil)
         ·
          go_simp
          refine hK.out _ _ trivial (fun hHeld => ?_)
          clear hK K
          refine wpAnyH_ready (rs:=[11]) (by kernel_rfl) (by simp) ?_
          refine AllReadyH.cons rfl (fun K hK => ?_) AllReadyH.nil
          go_simp
          refine hK.out _ _ trivial (fun hHeld => ?_)
          clear hK K
          refine wk 12 hHeld ?_
          refine wpAnyH_ready (rs:=[13]) (by kernel_rfl) (by simp) ?_
          refine AllReadyH.cons rfl (fun K hK => ?_) AllReadyH.nil
          go_simp
          refine hK.out _ _ trivial (fun hHeld => ?_)
          clear hK K
          have cQ2:(Wd.setCell ⟨g,q,none⟩ (.slice (some ⟨bk k,0,none⟩) n (cp k))).cell? ⟨g,k,none⟩ = some (.slice (some ⟨bk k,0,none⟩) n (cp k)):=by rw [sc_other (addr_ne fun _ => hqk)]; exact cQ
          have fQ2:(Wd.setCell ⟨g,q,none⟩ (.slice (some ⟨bk k,0,none⟩) n (cp k))).frozen? ⟨g,k,none⟩ = false:=by simpa using fQ
          clear cP cQ fP fQ
          generalize hW1:Wd.setCell ⟨g,q,none⟩ (.slice (some ⟨bk k,0,none⟩) n (cp k)) = W1 at cQ2 fQ2 hHeld ⊢
          refine wk 14 hHeld ?_
          refine wpAnyH_ready (rs:=[15]) (by kernel_rfl) (by simp) ?_
          refine AllReadyH.cons rfl (fun K hK => ?_) AllReadyH.nil
          go_simp
          refine hK.out _ _ trivial (fun hHeld => ?_)
          clear hK K
          refine wpAnyH_done (by kernel_rfl) ?_ _
          go_wp2_with fail
          go_meet
          case rel => exact HE.out _ (by rw [hW1])
         ·
          go_simp
          refine hK.out _ _ trivial (fun hHeld => ?_)
          clear hK K
          refine wpAnyH_ready (rs:=[7]) (by kernel_rfl) (by simp) ?_
          refine AllReadyH.cons rfl (fun K hK => ?_) AllReadyH.nil
          go_simp
          refine hK.out _ _ trivial (fun hHeld => ?_)
          clear hK K
          refine wk 12 hHeld ?_
          refine wpAnyH_ready (rs:=[13]) (by kernel_rfl) (by simp) ?_
          refine AllReadyH.cons rfl (fun K hK => ?_) AllReadyH.nil
          go_simp
          refine hK.out _ _ trivial (fun hHeld => ?_)
          clear hK K
          have cQ2:(Wd.setCell ⟨g,q,none⟩ (.slice (some ⟨bk k,0,none⟩) n (cp k))).cell? ⟨g,k,none⟩ = some (.slice (some ⟨bk k,0,none⟩) n (cp k)):=by rw [sc_other (addr_ne fun _ => hqk)]; exact cQ
          have fQ2:(Wd.setCell ⟨g,q,none⟩ (.slice (some ⟨bk k,0,none⟩) n (cp k))).frozen? ⟨g,k,none⟩ = false:=by simpa using fQ
          clear cP cQ fP fQ
          generalize hW1:Wd.setCell ⟨g,q,none⟩ (.slice (some ⟨bk k,0,none⟩) n (cp k)) = W1 at cQ2 fQ2 hHeld ⊢
          refine wk 14 hHeld ?_
          refine wpAnyH_ready (rs:=[15]) (by kernel_rfl) (by simp) ?_
          refine AllReadyH.cons rfl (fun K hK => ?_) AllReadyH.nil
          go_simp
          refine hK.out _ _ trivial (fun hHeld => ?_)
          clear hK K
          refine wpAnyH_done (by kernel_rfl) ?_ _
          go_wp2_with fail
          go_meet
          case rel => exact HE.out _ (by rw [hW1])
        case rest =>
        have H7:=hcut
        generalize wc = w7 at H7 ⊢
        obtain ⟨⟨s1,a1,k1,c1,t1,b1,l1,d1,x0,x1,x2,x3,n1,n2,m1,m2⟩,hfz⟩:=H7.out.2.d
        have HC:=hid (And.intro n1 (And.intro n2 (And.intro m1 m2)))
        clear n1 n2 hcut
        --%I
        go_wp2_with fail
        refine (F.FMinus_big s1 t1 a1 b1 k1 c1 l1 d1 _ _ w7 HC.out.1 HC.out.2.1 (by omega)).mono ?_
        rintro e w8 ⟨hk8,v8,rfl,s2,a2,k2,c2,t2,b2,l2,d2,rfl,n1,n2,m3,m4⟩
        have hDS:=H7.out.2.later hk8
        have HE:=hid (show Kept wB (put4' w8 pd 0 s2 (.slice a2 k2 c2) t2 (.slice b2 l2 d2))∧DS wB (put4' w8 pd 0 s2 (.slice a2 k2 c2) t2 (.slice b2 l2 d2)) n k M g pd (fun a => f (tr2 q k a)) (-s) (-(s * lastP M (psOf f k))) (fun i => bk (tr2 q k i)) (fun i => cp (tr2 q k i)) (fun i => Z (tr2 q k i)) from by
         have:=hDS.put n1 n2 (by omega) (by omega)
         exact ⟨this.grid.kept,this⟩)
        have y0:=(hDS.d.kept (Kept.refl _)).1
        obtain ⟨_,_,_,_,_,_,_,_,y0,y1,y2,y3,_⟩:=y0
        have z0:=hDS.d.2 0
        have z1:=hDS.d.2 1
        have z2:=hDS.d.2 2
        have z3:=hDS.d.2 3
        clear hDS n1 n2 hk8 x0 x1 x2 x3 hfz
        --%J
        go_wp2_with fail
        go_meet
        case rel =>
         have e7:psOf (fun a => f (tr2 q k a)) k = psOf f k:=psOf_congr fun a ha => by
          have:tr2 q k a = a:=by unfold tr2; rw [if_neg (by omega),if_neg (by omega)]
          rw [this]
         have e8:tr2 q k k = q:=by unfold tr2; rw [if_neg (fun e => hqk e.symm),if_pos rfl]
         refine ⟨HE.out.1,fun a => f (tr2 q k a),-s,fun i => bk (tr2 q k i),fun i => cp (tr2 q k i),fun i => Z (tr2 q k i),?_,?_⟩
         ·
          have:=HE.out.2
          rw [e7,Int.neg_mul]
          exact this
         ·
          rw [e7]
          show stg M (psOf f k) (f (tr2 q k k)) k ≠ 0
          rw [e8]
          exact HSt.out
      case rest =>
      have H7:=hcut
      clear hcut H6 HSt
      generalize wc = w7 at H7 ⊢
      obtain ⟨hK7,f,s,bk,cp,Z,hDS,hpv⟩:=H7.out
      have hL:lastP M (psOf f (k + 1)) = stg M (psOf f k) (f k) k:=by rw [psOf_succ]; exact (Ba.stg_snoc M (psOf f k) (f k) k).2
      have H8:=hid (And.intro hK7 (And.intro hDS (And.intro hpv hL)))
      obtain ⟨⟨s1,a1,k1,c1,t1,b1,l1,d1,x0,x1,x2,x3,n1,n2,m1,m2⟩,hfz⟩:=hDS.d
      obtain ⟨s2,a2,k2,c2,t2,b2,l2,d2,y0,y1,y2,y3,n3,n4,m3,m4⟩:=hDS.grid.cell k k hkt hkt
      have hlow:=hDS.cell k k (Nat.le_refl _) hkt (Nat.le_refl _) hkt
      have hhd:=hDS.grid.head k hkt
      have HC:=hid (And.intro n1 (And.intro n2 (And.intro n3 (And.intro n4 (And.intro hlow hfz)))))
      have KT:Kept w7 w7.drew:=(Kept.refl _).drew
      have sS:=hid (fun (V:World) (K:Kept w7 V) => show (fun w':World => (w'.cell? ⟨pd,0,none⟩ = some (.bool s1)∧w'.cell? ⟨pd,1,none⟩ = some (.slice a1 k1 c1)∧w'.cell? ⟨pd,2,none⟩ = some (.bool t1)∧w'.cell? ⟨pd,3,none⟩ = some (.slice b1 l1 d1))∧w'.cell? ⟨g,k,none⟩ = some (.slice (some ⟨bk k,0,none⟩) n (cp k))∧w'.cell? ⟨bk k,k * 4,none⟩ = some (.bool s2)∧w'.cell? ⟨bk k,k * 4 + 1,none⟩ = some (.slice a2 k2 c2)∧w'.cell? ⟨bk k,k * 4 + 2,none⟩ = some (.bool t2)∧w'.cell? ⟨bk k,k * 4 + 3,none⟩ = some (.slice b2 l2 d2)) V from
       have e1:=H8.out.2.1.d.1.lt
       have e2:=(H8.out.2.1.grid.base k hkt).2.1
       ⟨⟨(Below.cell K (p:=⟨pd,0,none⟩) e1).trans x0,(Below.cell K (p:=⟨pd,1,none⟩) e1).trans x1,(Below.cell K (p:=⟨pd,2,none⟩) e1).trans x2,(Below.cell K (p:=⟨pd,3,none⟩) e1).trans x3⟩,(Below.cell K (p:=⟨g,k,none⟩) H8.out.2.1.grid.lt).trans hhd,(Below.cell K (p:=⟨bk k,k * 4,none⟩) e2).trans y0,(Below.cell K (p:=⟨bk k,k * 4 + 1,none⟩) e2).trans y1,(Below.cell K (p:=⟨bk k,k * 4 + 2,none⟩) e2).trans y2,(Below.cell K (p:=⟨bk k,k * 4 + 3,none⟩) e2).trans y3⟩)
      clear n1 n2 n3 n4 hlow hfz hDS hK7 hpv hL hhd x0 x1 x2 x3 y0 y1 y2 y3
      --%K
      go_upto_region 24 with fail
      refine region_z 9 (S:=fun w' => (w'.cell? ⟨pd,0,none⟩ = some (.bool s1)∧w'.cell? ⟨pd,1,none⟩ = some (.slice a1 k1 c1)∧w'.cell? ⟨pd,2,none⟩ = some (.bool t1)∧w'.cell? ⟨pd,3,none⟩ = some (.slice b1 l1 d1))∧w'.cell? ⟨g,k,none⟩ = some (.slice (some ⟨bk k,0,none⟩) n (cp k))∧w'.cell? ⟨bk k,k * 4,none⟩ = some (.bool s2)∧w'.cell? ⟨bk k,k * 4 + 1,none⟩ = some (.slice a2 k2 c2)∧w'.cell? ⟨bk k,k * 4 + 2,none⟩ = some (.bool t2)∧w'.cell? ⟨bk k,k * 4 + 3,none⟩ = some (.slice b2 l2 d2)) (by kernel_rfl) (sS.out _ KT) (fun hHeld => ?_)
      generalize w7.drew = Wd at KT hHeld ⊢
      refine zk 0 hHeld ?_
      refine zk 1 hHeld ?_
      refine zk 2 hHeld ?_
      refine zk 3 hHeld ?_
      refine zk 4 hHeld ?_
      refine zk 5 hHeld ?_
      refine zk 6 hHeld ?_
      refine zk 7 hHeld ?_
      refine zr 8 fun K9 hK => ?_
      --%L
      go_simp
      refine (F.FTimes_big s1 t1 s2 t2 a1 b1 a2 b2 k1 c1 l1 d1 k2 c2 l2 d2 _ _ _ _ Wd (HC.out.1.kept KT) (HC.out.2.1.kept KT) (HC.out.2.2.1.kept KT) (HC.out.2.2.2.1.kept KT) (by omega) (by omega) (by decide) (by have:=HC.out.2.2.2.2.1.pos; omega)).mono ?_
      rintro e u1 ⟨hu1,v1,N5,Q5,rfl,⟨s3,a3,k3,c3,t3,b3,l3,d3,rfl,n5,n6,m5,m6⟩,hl5⟩
      have hDS:=H8.out.2.1.later (KT.trans hu1)
      have hq:=low_whole (z:=s * lastP M (psOf f (k + 1))) (low_times (low_int _) HC.out.2.2.2.2.1 hl5) (by rw [Int.one_mul]; exact Ba.last_ne hDS.inv.piv) (by rw [H8.out.2.2.2,Int.one_mul,Int.mul_assoc,Int.mul_assoc,Int.mul_comm (lastP M (psOf f k))])
      obtain ⟨e5,e6⟩:=hq
      subst e5 e6
      have hsm:(s * lastP M (psOf f (k + 1))).natAbs < 65536 ^ 7000:=by
       rw [H8.out.2.2.2]
       have:=hDS.inv.small HF.out hn (Nat.le_refl k) hkt (Nat.le_refl k) hkt
       rcases hDS.inv.sgn with e | e
       ·
        rw [e,Int.one_mul]; exact this
       ·
        rw [e,Int.neg_mul,Int.one_mul,Int.natAbs_neg]; exact this
      have HE:=hid (show DS wB (put4' u1 pd 0 s3 (.slice a3 k3 c3) t3 (.slice b3 l3 d3)) n k M g pd f s (s * lastP M (psOf f (k + 1))) bk cp Z from hDS.put n5 n6 (nis_len n5 hsm) (nis_len n6 (pow_one_lt (e:=7000) (by decide))))
      have f0:=hDS.d.2 0
      have f1:=hDS.d.2 1
      have f2:=hDS.d.2 2
      have f3:=hDS.d.2 3
      refine hK.out _ _ (sS.out _ (KT.trans hu1)) (fun hHeld => ?_)
      clear hK hDS n5 n6 hl5 hsm hu1 KT
      obtain ⟨⟨z0,z1,z2,z3⟩,_⟩:=hHeld
      refine X.zl fun K9 hK => ?_
      --%M
      go_simp
      refine hK.out _ _ ?_
      clear hK z0 z1 z2 z3 f0 f1 f2 f3
      refine zd ?_
      have HE:=hid (show Kept wB ((((u1.setCell ⟨pd,0,none⟩ (.bool s3)).setCell ⟨pd,1,none⟩ (.slice a3 k3 c3)).setCell ⟨pd,2,none⟩ (.bool t3)).setCell ⟨pd,3,none⟩ (.slice b3 l3 d3))∧DS wB ((((u1.setCell ⟨pd,0,none⟩ (.bool s3)).setCell ⟨pd,1,none⟩ (.slice a3 k3 c3)).setCell ⟨pd,2,none⟩ (.bool t3)).setCell ⟨pd,3,none⟩ (.slice b3 l3 d3)) n k M g pd f s (s * lastP M (psOf f (k + 1))) bk cp Z from ⟨HE.out.grid.kept,HE.out⟩)
      generalize (((u1.setCell ⟨pd,0,none⟩ (.bool s3)).setCell ⟨pd,1,none⟩ (.slice a3 k3 c3)).setCell ⟨pd,2,none⟩ (.bool t3)).setCell ⟨pd,3,none⟩ (.slice b3 l3 d3) = w8 at HE ⊢
      have HPv:=hid (And.intro H8.out.2.2.1 H8.out.2.2.2)
      clear HC sS H8
      --%N
      go_wp2_with fail
      go_loopw [11] (fun v11 wr => ∃ i:Nat,k < i∧i≤n∧v11 = .int .i64 (i:Int)∧Hid (Kept wB wr∧∃ Z,DE wB wr n k i k M g pd f s (s * lastP M (psOf f (k + 1))) bk cp Z)) (fun v11 _ => n - (intOf v11).toNat)
      case atStart => exact ⟨k + 1,Nat.lt_succ_self _,hkt,by go_num,HE.out.1,Z,HE.out.2.begin hkt HPv.out.1⟩
      case round =>
       clear HE
       obtain ⟨i,hki,hin,rfl,R⟩:=hrel
       generalize wr = w9 at R ⊢
       by_cases hit:i < n
       ·
        have hii:(i:Int) < (n:Int):=by omega
        have hi0:(0:Int)≤(i:Int):=by omega
        obtain ⟨hK9,Z,hDE⟩:=R.out
        obtain ⟨s1,a1,k1,c1,t1,b1,l1,d1,x0,x1,x2,x3,n1,n2,m1,m2⟩:=hDE.grid.cell i k hit hkt
        obtain ⟨s2,a2,k2,c2,t2,b2,l2,d2,y0,y1,y2,y3,n3,n4,m3,m4⟩:=hDE.grid.cell k k hkt hkt
        have hlow1:=hDE.old hit (Nat.le_refl k) (Nat.le_refl k) hkt
        have hlow2:=hDE.top (Nat.le_refl k) hkt
        have hh1:=hDE.grid.head i hit
        have hh2:=hDE.grid.head k hkt
        have H9:=hid (And.intro hK9 hDE)
        have HC:=hid (And.intro n1 (And.intro n2 (And.intro n3 (And.intro n4 (And.intro hlow1 hlow2)))))
        have sS:=hid (fun (V:World) (K:Kept w9 V) => show (fun w':World => (w'.cell? ⟨g,i,none⟩ = some (.slice (some ⟨bk i,0,none⟩) n (cp i))∧w'.cell? ⟨bk i,k * 4,none⟩ = some (.bool s1)∧w'.cell? ⟨bk i,k * 4 + 1,none⟩ = some (.slice a1 k1 c1)∧w'.cell? ⟨bk i,k * 4 + 2,none⟩ = some (.bool t1)∧w'.cell? ⟨bk i,k * 4 + 3,none⟩ = some (.slice b1 l1 d1))∧w'.cell? ⟨g,k,none⟩ = some (.slice (some ⟨bk k,0,none⟩) n (cp k))∧w'.cell? ⟨bk k,k * 4,none⟩ = some (.bool s2)∧w'.cell? ⟨bk k,k * 4 + 1,none⟩ = some (.slice a2 k2 c2)∧w'.cell? ⟨bk k,k * 4 + 2,none⟩ = some (.bool t2)∧w'.cell? ⟨bk k,k * 4 + 3,none⟩ = some (.slice b2 l2 d2)) V from
         have e1:=(H9.out.2.grid.base i hit).2.1
         have e2:=(H9.out.2.grid.base k hkt).2.1
         ⟨⟨(Below.cell K (p:=⟨g,i,none⟩) H9.out.2.grid.lt).trans hh1,(Below.cell K (p:=⟨bk i,k * 4,none⟩) e1).trans x0,(Below.cell K (p:=⟨bk i,k * 4 + 1,none⟩) e1).trans x1,(Below.cell K (p:=⟨bk i,k * 4 + 2,none⟩) e1).trans x2,(Below.cell K (p:=⟨bk i,k * 4 + 3,none⟩) e1).trans x3⟩,(Below.cell K (p:=⟨g,k,none⟩) H9.out.2.grid.lt).trans hh2,(Below.cell K (p:=⟨bk k,k * 4,none⟩) e2).trans y0,(Below.cell K (p:=⟨bk k,k * 4 + 1,none⟩) e2).trans y1,(Below.cell K (p:=⟨bk k,k * 4 + 2,none⟩) e2).trans y2,(Below.cell K (p:=⟨bk k,k * 4 + 3,none⟩) e2).trans y3⟩)
        clear n1 n2 n3 n4 hlow1 hlow2 hDE hK9 hh1 hh2 x0 x1 x2 x3 y0 y1 y2 y3
        --%O
        go_upto_region 28 with fail
        go_cut [12] (fun v12 wc => ∃ pf:Nat,v12 = .pointer (some ⟨pf,0,none⟩)∧Hid (Kept w9 wc∧w9.heap.size≤pf∧∃ Nf Qf,FB wc pf Nf Qf∧Low (stg M (psOf f k) (f i) k) (stg M (psOf f k) (f k) k) Nf Qf))
        case first =>
         --%P
         have KT:Kept w9 w9.drew:=(Kept.refl _).drew
         have HOv:=hid (fun (V:World) (K:Kept w9 V) => show Calls Tryz.prog 56 #[.agg #[.bool s1,.slice a1 k1 c1,.bool t1,.slice b1 l1 d1],.agg #[.bool s2,.slice a2 k2 c2,.bool t2,.slice b2 l2 d2]] V fun e w' => Kept V w'∧∃ s3 a3 k3 c3 t3 b3 l3 d3 Nf Qf,e = .returned (.agg #[.bool s3,.slice a3 k3 c3,.bool t3,.slice b3 l3 d3])∧D.NIs w' s3 (.slice a3 k3 c3) Nf∧D.NIs w' t3 (.slice b3 l3 d3) Qf∧k3≤7000∧l3≤7000∧Low (stg M (psOf f k) (f i) k) (stg M (psOf f k) (f k) k) Nf Qf from by
          have hl:=Ba.last_ne H9.out.2.inv.piv
          have hz2:=fun e => HPv.out.1 ((low_zero HC.out.2.2.2.2.2 hl).1 e)
          refine (F.FOver_big s1 t1 s2 t2 a1 b1 a2 b2 k1 c1 l1 d1 k2 c2 l2 d2 _ _ _ _ V (HC.out.1.kept K) (HC.out.2.1.kept K) (HC.out.2.2.1.kept K) (HC.out.2.2.2.1.kept K) ⟨by omega,by omega,by omega,by omega⟩ (Int.mul_ne_zero (by have:=HC.out.2.2.2.2.1.pos; omega) hz2)).mono ?_
          rintro e w' ⟨hk,v,N5,Q5,rfl,⟨s3,a3,k3,c3,t3,b3,l3,d3,rfl,n5,n6,_,_⟩,hl5⟩
          have h6:=low_over HC.out.2.2.2.2.1 HC.out.2.2.2.2.2 HPv.out.1 hl5
          have h7:Low (stg M (psOf f k) (f i) k) (stg M (psOf f k) (f k) k) N5 Q5:=low_ratio h6 (Int.mul_ne_zero hl HPv.out.1) (by rw [Int.mul_assoc])
          have h8:=low_nat h7 HPv.out.1 (H9.out.2.inv.small HF.out hn (Nat.le_of_lt hki) hit (Nat.le_refl k) hkt) (H9.out.2.inv.small HF.out hn (Nat.le_refl k) hkt (Nat.le_refl k) hkt)
          exact ⟨hk,s3,a3,k3,c3,t3,b3,l3,d3,N5,Q5,rfl,n5,n6,nis_len n5 h8.1,nis_len n6 h8.2,h7⟩)
         refine wp_region_held_drew (S:=fun w' => (w'.cell? ⟨g,i,none⟩ = some (.slice (some ⟨bk i,0,none⟩) n (cp i))∧w'.cell? ⟨bk i,k * 4,none⟩ = some (.bool s1)∧w'.cell? ⟨bk i,k * 4 + 1,none⟩ = some (.slice a1 k1 c1)∧w'.cell? ⟨bk i,k * 4 + 2,none⟩ = some (.bool t1)∧w'.cell? ⟨bk i,k * 4 + 3,none⟩ = some (.slice b1 l1 d1))∧w'.cell? ⟨g,k,none⟩ = some (.slice (some ⟨bk k,0,none⟩) n (cp k))∧w'.cell? ⟨bk k,k * 4,none⟩ = some (.bool s2)∧w'.cell? ⟨bk k,k * 4 + 1,none⟩ = some (.slice a2 k2 c2)∧w'.cell? ⟨bk k,k * 4 + 2,none⟩ = some (.bool t2)∧w'.cell? ⟨bk k,k * 4 + 3,none⟩ = some (.slice b2 l2 d2)) (by kernel_rfl) (sS.out _ KT) (fun hHeld => ?_)
         generalize w9.drew = Wd at KT hHeld ⊢
         refine wk 0 hHeld ?_
         refine wk 1 hHeld ?_
         refine wk 2 hHeld ?_
         refine wk 3 hHeld ?_
         refine wk 4 hHeld ?_
         refine wk 5 hHeld ?_
         refine wk 6 hHeld ?_
         refine wk 7 hHeld ?_
         refine wk 8 hHeld ?_
         refine wk 9 hHeld ?_
         refine wk 10 hHeld ?_
         refine wk 11 hHeld ?_
         refine wk 12 hHeld ?_
         refine wk 13 hHeld ?_
         refine wpAnyH_ready (rs:=[14,15]) (by kernel_rfl) (by simp) ?_
         refine AllReadyH.cons rfl (fun K hK => ?_) (AllReadyH.cons rfl (fun K hK => ?_) AllReadyH.nil)
         ·
          --%Q
          go_simp
          refine (HOv.out Wd KT).mono ?_
          rintro e u1 ⟨hu1,s3,a3,k3,c3,t3,b3,l3,d3,Nf,Qf,rfl,n5,n6,m5,m6,h7⟩
          refine hK.out _ _ (sS.out _ (KT.trans hu1)) (fun hHeld => ?_)
          clear hK K
          have KT:=KT.trans hu1
          refine wpAnyH_ready (rs:=[15]) (by kernel_rfl) (by simp) ?_
          refine AllReadyH.cons rfl (fun K hK => ?_) AllReadyH.nil
          go_simp
          refine hK.out _ _ (sS.out _ (KT.alloc _)) (fun hHeld => ?_)
          clear hK K
          have z:=RowL.alloc 111 u1 [.bool false,.slice none 0 0,.bool false,.slice none 0 0]
          have hg9:w9.heap.size≤u1.heap.size:=KT.size
          have KA:=(Kept.refl u1).alloc (.cells #[.bool false,.slice none 0 0,.bool false,.slice none 0 0] 111)
          have KT:=KT.alloc (.cells #[.bool false,.slice none 0 0,.bool false,.slice none 0 0] 111)
          obtain ⟨pf,hpf⟩:∃ p,p = u1.heap.size:=⟨_,rfl⟩
          rw [← hpf] at z hg9 ⊢
          generalize u1.alloc (.cells #[.bool false,.slice none 0 0,.bool false,.slice none 0 0] 111) = Wa at z KA KT hHeld ⊢
          clear hpf
          have n5:=n5.kept KA
          have n6:=n6.kept KA
          have x0:=z.cell 0 _ rfl
          have x1:=z.cell 1 _ rfl
          have x2:=z.cell 2 _ rfl
          have x3:=z.cell 3 _ rfl
          have f0:=z.fz 0
          have f1:=z.fz 1
          have f2:=z.fz 2
          have f3:=z.fz 3
          have hz0:FB Wa pf 0 0:=⟨⟨false,none,0,0,false,none,0,0,x0,x1,x2,x3,⟨[],D.Sl.nil _ none 0,⟨D.Bd_nil,(.inl rfl),fun _ => rfl⟩,rfl⟩,⟨[],D.Sl.nil _ none 0,⟨D.Bd_nil,(.inl rfl),fun _ => rfl⟩,rfl⟩,by decide,by decide⟩,fun a => z.fz a⟩
          have HFb:=hid (And.intro (KX.kept KT (put4_kx (b:=pf) (o:=0) (s:=s3) (v:=.slice a3 k3 c3) (t:=t3) (u:=.slice b3 l3 d3)) fun q hq => by rw [hq]; exact hg9) (And.intro hg9 (And.intro (hz0.put n5 n6 m5 m6) h7)))
          clear hz0 n5 n6 h7
          refine wpAnyH_ready (rs:=[16]) (by kernel_rfl) (by simp) ?_
          refine AllReadyH.cons rfl (fun K hK => ?_) AllReadyH.nil
          go_simp
          refine hK.out _ _ (sS.out _ HFb.out.1) (fun hHeld => ?_)
          clear hK K
          refine wpAnyH_done (by kernel_rfl) ?_ _
          go_wp2_with fail
          go_meet
          case rel => exact ⟨pf,rfl,HFb.out.1,HFb.out.2.1,Nf,Qf,HFb.out.2.2.1,HFb.out.2.2.2⟩
         ·
          --%R
          go_simp
          refine hK.out _ _ (sS.out _ (KT.alloc _)) (fun hHeld => ?_)
          clear hK K
          have z:=RowL.alloc 111 Wd [.bool false,.slice none 0 0,.bool false,.slice none 0 0]
          have hg9:w9.heap.size≤Wd.heap.size:=KT.size
          have KA:=(Kept.refl Wd).alloc (.cells #[.bool false,.slice none 0 0,.bool false,.slice none 0 0] 111)
          have KT:=KT.alloc (.cells #[.bool false,.slice none 0 0,.bool false,.slice none 0 0] 111)
          obtain ⟨pf,hpf⟩:∃ p,p = Wd.heap.size:=⟨_,rfl⟩
          rw [← hpf] at z hg9 ⊢
          generalize Wd.alloc (.cells #[.bool false,.slice none 0 0,.bool false,.slice none 0 0] 111) = Wa at z KA KT hHeld ⊢
          clear hpf
          refine wpAnyH_ready (rs:=[14]) (by kernel_rfl) (by simp) ?_
          refine AllReadyH.cons rfl (fun K hK => ?_) AllReadyH.nil
          go_simp
          refine (HOv.out Wa KT).mono ?_
          rintro e u1 ⟨hu1,s3,a3,k3,c3,t3,b3,l3,d3,Nf,Qf,rfl,n5,n6,m5,m6,h7⟩
          refine hK.out _ _ (sS.out _ (KT.trans hu1)) (fun hHeld => ?_)
          clear hK K
          have KT:=KT.trans hu1
          have z:=z.kept hu1
          have x0:=z.cell 0 _ rfl
          have x1:=z.cell 1 _ rfl
          have x2:=z.cell 2 _ rfl
          have x3:=z.cell 3 _ rfl
          have f0:=z.fz 0
          have f1:=z.fz 1
          have f2:=z.fz 2
          have f3:=z.fz 3
          have hz0:FB u1 pf 0 0:=⟨⟨false,none,0,0,false,none,0,0,x0,x1,x2,x3,⟨[],D.Sl.nil _ none 0,⟨D.Bd_nil,(.inl rfl),fun _ => rfl⟩,rfl⟩,⟨[],D.Sl.nil _ none 0,⟨D.Bd_nil,(.inl rfl),fun _ => rfl⟩,rfl⟩,by decide,by decide⟩,fun a => z.fz a⟩
          have HFb:=hid (And.intro (KX.kept KT (put4_kx (b:=pf) (o:=0) (s:=s3) (v:=.slice a3 k3 c3) (t:=t3) (u:=.slice b3 l3 d3)) fun q hq => by rw [hq]; exact hg9) (And.intro hg9 (And.intro (hz0.put n5 n6 m5 m6) h7)))
          clear hz0 n5 n6 h7
          refine wpAnyH_ready (rs:=[16]) (by kernel_rfl) (by simp) ?_
          refine AllReadyH.cons rfl (fun K hK => ?_) AllReadyH.nil
          go_simp
          refine hK.out _ _ (sS.out _ HFb.out.1) (fun hHeld => ?_)
          clear hK K
          refine wpAnyH_done (by kernel_rfl) ?_ _
          go_wp2_with fail
          go_meet
          case rel => exact ⟨pf,rfl,HFb.out.1,HFb.out.2.1,Nf,Qf,HFb.out.2.2.1,HFb.out.2.2.2⟩
        case rest =>
        obtain ⟨pf,rfl,H10⟩:=hcut
        generalize wc = w10 at H10 ⊢
        obtain ⟨hk10,hpf,Nf,Qf,hFb,hlf⟩:=H10.out
        have HFf:=hid (And.intro hlf hpf)
        have HT:=hid (And.intro (H9.out.1.trans hk10) (And.intro hFb (H9.out.2.later hk10)))
        have HBk:=hid (fun r (hr:r < n) => show bk r ≠ pf by have:=(H9.out.2.grid.base r hr).2.1; omega)
        clear hk10 hpf hFb hlf H10 sS HC
        --%S
        go_wp2_with fail
        go_loopw [13] (fun v13 wr => ∃ j:Nat,k≤j∧j≤n∧v13 = .int .i64 (j:Int)∧Hid (Kept wB wr∧FB wr pf Nf Qf∧(∃ Z,DE wB wr n k i j M g pd f s (s * lastP M (psOf f (k + 1))) bk cp Z)∧(Nf = 0→j = k))) (fun v13 _ => n - (intOf v13).toNat)
        case atStart => exact ⟨k,Nat.le_refl _,hkn,rfl,HT.out.1,HT.out.2.1,⟨Z,HT.out.2.2⟩,fun _ => rfl⟩
        case round =>
         clear HT H9
         obtain ⟨j,hkj,hjn,rfl,U⟩:=hrel
         generalize wr = w11 at U ⊢
         by_cases hjt:j < n
         ·
          have hjj:(j:Int) < (n:Int):=by omega
          have hj0:(0:Int)≤(j:Int):=by omega
          obtain ⟨hK11,⟨⟨s1,a1,k1,c1,t1,b1,l1,d1,x0,x1,x2,x3,n1,n2,m1,m2⟩,hff⟩,⟨Z,hDE⟩,hjk⟩:=U.out
          have H11:=hid (And.intro hK11 (And.intro hDE (And.intro n1 (And.intro n2 hjk))))
          clear hK11 hDE n1 n2 hjk hff
          --%T
          go_wp2_with fail
          refine (F.FSign_big s1 t1 a1 b1 k1 c1 l1 d1 _ w11 H11.out.2.2.1 (by omega)).mono ?_
          rintro e w12 ⟨hk12,rfl⟩
          obtain ⟨sg,hsg⟩:∃ x,x = isgn Nf 0:=⟨_,rfl⟩
          rw [← hsg]
          by_cases hzf:Nf = 0
          ·
           have e1:sg = 0:=by rw [hsg,hzf]; decide
           have e2:(sg == 0) = true:=by simp [e1]
           have e3:(sg != 0) = false:=by simp [bne,e2]
           have hj2:=H11.out.2.2.2.2 hzf
           subst hj2
           have HE:=hid (show Kept wB w12∧DE wB w12 n j (i + 1) j M g pd f s (s * lastP M (psOf f (j + 1))) bk cp Z from ⟨H11.out.1.trans hk12,(H11.out.2.1.later hk12).skip hit ((low_zero HFf.out.1 HPv.out.1).1 hzf)⟩)
           clear hsg hk12 x0 x1 x2 x3
           --%U
           go_wp2_with fail
           go_roundw
           case rel => exact ⟨i + 1,by omega,by omega,by go_num,HE.out.1,Z,HE.out.2⟩
           case measure => show n - ((i:Int) + 1).toNat < n - (i:Int).toNat; omega
          ·
           have e1:sg ≠ 0:=by
            rw [hsg]
            unfold isgn
            split
            ·
             decide
            ·
             first | decide | (rw [if_neg hzf]; decide)
           have e2:(sg == 0) = false:=by simpa using e1
           have e3:(sg != 0) = true:=by simp [bne,e2]
           have hDE:=H11.out.2.1.later hk12
           have hFb:=U.out.2.1.kept hk12
           obtain ⟨s2,a2,k2,c2,t2,b2,l2,d2,y0,y1,y2,y3,n3,n4,m3,m4⟩:=hDE.grid.cell k j hkt hjt
           obtain ⟨s3,a3,k3,c3,t3,b3,l3,d3,z0,z1,z2,z3,n5,n6,m5,m6⟩:=hDE.grid.cell i j hit hjt
           have hlow2:=hDE.top hkj hjt
           have hlow3:=hDE.old hit (Nat.le_refl j) hkj hjt
           have hh1:=hDE.grid.head i hit
           have hh2:=hDE.grid.head k hkt
           have HC:=hid (And.intro n3 (And.intro n4 (And.intro n5 (And.intro n6 (And.intro hlow2 hlow3)))))
           have H12:=hid (And.intro (H11.out.1.trans hk12) (And.intro hDE (And.intro hFb (And.intro (H11.out.2.2.1.kept hk12) (H11.out.2.2.2.1.kept hk12)))))
           have x0:=(Below.cell hk12 (p:=⟨pf,0,none⟩) U.out.2.1.1.lt).trans x0
           have x1:=(Below.cell hk12 (p:=⟨pf,1,none⟩) U.out.2.1.1.lt).trans x1
           have x2:=(Below.cell hk12 (p:=⟨pf,2,none⟩) U.out.2.1.1.lt).trans x2
           have x3:=(Below.cell hk12 (p:=⟨pf,3,none⟩) U.out.2.1.1.lt).trans x3
           have sS:=hid (fun (V:World) (K:Kept w12 V) => show (fun w':World => (w'.cell? ⟨g,i,none⟩ = some (.slice (some ⟨bk i,0,none⟩) n (cp i))∧w'.cell? ⟨bk i,j * 4,none⟩ = some (.bool s3)∧w'.cell? ⟨bk i,j * 4 + 1,none⟩ = some (.slice a3 k3 c3)∧w'.cell? ⟨bk i,j * 4 + 2,none⟩ = some (.bool t3)∧w'.cell? ⟨bk i,j * 4 + 3,none⟩ = some (.slice b3 l3 d3))∧(w'.cell? ⟨pf,0,none⟩ = some (.bool s1)∧w'.cell? ⟨pf,1,none⟩ = some (.slice a1 k1 c1)∧w'.cell? ⟨pf,2,none⟩ = some (.bool t1)∧w'.cell? ⟨pf,3,none⟩ = some (.slice b1 l1 d1))∧w'.cell? ⟨g,k,none⟩ = some (.slice (some ⟨bk k,0,none⟩) n (cp k))∧w'.cell? ⟨bk k,j * 4,none⟩ = some (.bool s2)∧w'.cell? ⟨bk k,j * 4 + 1,none⟩ = some (.slice a2 k2 c2)∧w'.cell? ⟨bk k,j * 4 + 2,none⟩ = some (.bool t2)∧w'.cell? ⟨bk k,j * 4 + 3,none⟩ = some (.slice b2 l2 d2)) V from
            have e1:=(H12.out.2.1.grid.base i hit).2.1
            have e2:=(H12.out.2.1.grid.base k hkt).2.1
            have e3:=H12.out.2.2.1.1.lt
            ⟨⟨(Below.cell K (p:=⟨g,i,none⟩) H12.out.2.1.grid.lt).trans hh1,(Below.cell K (p:=⟨bk i,j * 4,none⟩) e1).trans z0,(Below.cell K (p:=⟨bk i,j * 4 + 1,none⟩) e1).trans z1,(Below.cell K (p:=⟨bk i,j * 4 + 2,none⟩) e1).trans z2,(Below.cell K (p:=⟨bk i,j * 4 + 3,none⟩) e1).trans z3⟩,⟨(Below.cell K (p:=⟨pf,0,none⟩) e3).trans x0,(Below.cell K (p:=⟨pf,1,none⟩) e3).trans x1,(Below.cell K (p:=⟨pf,2,none⟩) e3).trans x2,(Below.cell K (p:=⟨pf,3,none⟩) e3).trans x3⟩,(Below.cell K (p:=⟨g,k,none⟩) H12.out.2.1.grid.lt).trans hh2,(Below.cell K (p:=⟨bk k,j * 4,none⟩) e2).trans y0,(Below.cell K (p:=⟨bk k,j * 4 + 1,none⟩) e2).trans y1,(Below.cell K (p:=⟨bk k,j * 4 + 2,none⟩) e2).trans y2,(Below.cell K (p:=⟨bk k,j * 4 + 3,none⟩) e2).trans y3⟩)
           clear n3 n4 n5 n6 hlow2 hlow3 hDE hFb hh1 hh2 x0 x1 x2 x3 y0 y1 y2 y3 z0 z1 z2 z3 hsg hk12
           have KT:Kept w12 w12.drew:=(Kept.refl _).drew
           --%V
           go_upto_region 32 with fail
           refine region_z 23 (S:=fun w' => (w'.cell? ⟨g,i,none⟩ = some (.slice (some ⟨bk i,0,none⟩) n (cp i))∧w'.cell? ⟨bk i,j * 4,none⟩ = some (.bool s3)∧w'.cell? ⟨bk i,j * 4 + 1,none⟩ = some (.slice a3 k3 c3)∧w'.cell? ⟨bk i,j * 4 + 2,none⟩ = some (.bool t3)∧w'.cell? ⟨bk i,j * 4 + 3,none⟩ = some (.slice b3 l3 d3))∧(w'.cell? ⟨pf,0,none⟩ = some (.bool s1)∧w'.cell? ⟨pf,1,none⟩ = some (.slice a1 k1 c1)∧w'.cell? ⟨pf,2,none⟩ = some (.bool t1)∧w'.cell? ⟨pf,3,none⟩ = some (.slice b1 l1 d1))∧w'.cell? ⟨g,k,none⟩ = some (.slice (some ⟨bk k,0,none⟩) n (cp k))∧w'.cell? ⟨bk k,j * 4,none⟩ = some (.bool s2)∧w'.cell? ⟨bk k,j * 4 + 1,none⟩ = some (.slice a2 k2 c2)∧w'.cell? ⟨bk k,j * 4 + 2,none⟩ = some (.bool t2)∧w'.cell? ⟨bk k,j * 4 + 3,none⟩ = some (.slice b2 l2 d2)) (by kernel_rfl) (sS.out _ KT) (fun hHeld => ?_)
           generalize w12.drew = Wd at KT hHeld ⊢
           refine zk 0 hHeld ?_
           refine zk 1 hHeld ?_
           refine zk 2 hHeld ?_
           refine zk 3 hHeld ?_
           refine zk 4 hHeld ?_
           refine zk 5 hHeld ?_
           refine zk 6 hHeld ?_
           refine zk 7 hHeld ?_
           refine zk 8 hHeld ?_
           refine zk 9 hHeld ?_
           refine zk 10 hHeld ?_
           refine zk 11 hHeld ?_
           refine zk 12 hHeld ?_
           refine zk 13 hHeld ?_
           refine zk 14 hHeld ?_
           refine zk 15 hHeld ?_
           refine zk 16 hHeld ?_
           refine zk 17 hHeld ?_
           refine zk 18 hHeld ?_
           refine zk 19 hHeld ?_
           refine zr 20 fun K9 hK => ?_
           --%W
           go_simp
           refine (F.FTimes_big s1 t1 s2 t2 a1 b1 a2 b2 k1 c1 l1 d1 k2 c2 l2 d2 _ _ _ _ Wd (H12.out.2.2.2.1.kept KT) (H12.out.2.2.2.2.kept KT) (HC.out.1.kept KT) (HC.out.2.1.kept KT) (by omega) (by omega) (by have:=HFf.out.1.pos; omega) (by have:=HC.out.2.2.2.2.1.pos; omega)).mono ?_
           rintro e u1 ⟨hu1,v1,Nt,Qt,rfl,⟨s4,a4,k4,c4,t4,b4,l4,d4,rfl,p1,p2,q1,q2⟩,hlt⟩
           refine hK.out _ _ (sS.out _ (KT.trans hu1)) (fun hHeld => ?_)
           clear hK
           refine zr 21 fun K9 hK => ?_
           --%X
           go_simp
           refine (F.FLess_big s3 t3 s4 t4 a3 b3 a4 b4 k3 c3 l3 d3 k4 c4 l4 d4 _ _ _ _ u1 (HC.out.2.2.1.kept (KT.trans hu1)) (HC.out.2.2.2.1.kept (KT.trans hu1)) p1 p2 ⟨by omega,by omega,by omega,by omega⟩ (Int.mul_ne_zero (by have:=HC.out.2.2.2.2.2.pos; omega) (by have:=hlt.pos; omega))).mono ?_
           rintro e u2 ⟨hu2,v2,N5,Q5,rfl,⟨s5,a5,k5,c5,t5,b5,l5,d5,rfl,p3,p4,q3,q4⟩,hl5⟩
           have KU:=KT.trans (hu1.trans hu2)
           have hstep:=elim_step (c:=k) H12.out.2.1.inv.piv HPv.out.1 HFf.out.1 HC.out.2.2.2.2.2 HC.out.2.2.2.2.1 hlt hl5
           rw [← psOf_succ] at hstep
           have hfew:=H12.out.2.1.few HF.out hn hit hkj hjt hstep
           have hDE:=H12.out.2.1.later KU
           have hput:=hDE.put hit hjt p3 p4 (nis_len p3 hfew.1) (nis_len p4 hfew.2) hstep
           have hnx:=(hDE.grid.put hit hjt p3 p4 (nis_len p3 hfew.1) (nis_len p4 hfew.2)).2
           have hFb:=(H12.out.2.2.1.kept KU).beside (fun e => HBk.out i hit e.symm) hnx
           have HE:=hid (And.intro hput.grid.kept (And.intro hFb hput))
           have f0:=hDE.grid.rfz i hit (j * 4)
           have f1:=hDE.grid.rfz i hit (j * 4 + 1)
           have f2:=hDE.grid.rfz i hit (j * 4 + 2)
           have f3:=hDE.grid.rfz i hit (j * 4 + 3)
           refine hK.out _ _ (sS.out _ KU) (fun hHeld => ?_)
           clear hK hDE hput hnx hFb p1 p2 p3 p4 hstep hfew hlt hl5 hu1 hu2 KT KU
           refine zr 22 fun K9 hK => ?_
           go_simp
           refine hK.out _ _ hHeld (fun hHeld => ?_)
           clear hK
           obtain ⟨⟨_,z0,z1,z2,z3⟩,_⟩:=hHeld
           refine X.zl fun K9 hK => ?_
           --%Y
           go_simp
           refine hK.out _ _ ?_
           clear hK z0 z1 z2 z3 f0 f1 f2 f3
           refine zd ?_
           --%Z
           go_wp2_with fail
           go_roundw
           case rel => exact ⟨j + 1,by omega,by omega,by go_num,HE.out.1,HE.out.2.1,⟨_,HE.out.2.2⟩,fun e => absurd e hzf⟩
           case measure => show n - ((j:Int) + 1).toNat < n - (j:Int).toNat; omega
         ·
          have hjj:¬ (j:Int) < (n:Int):=by omega
          obtain rfl:j = n:=by omega
          have HE:=hid (show Kept wB w11∧∃ Z,DE wB w11 j k (i + 1) k M g pd f s (s * lastP M (psOf f (k + 1))) bk cp Z from ⟨U.out.1,by obtain ⟨Z,h⟩:=U.out.2.2.1; exact ⟨Z,h.row⟩⟩)
          --%ZA
          go_wp2_with fail
          go_roundw
          case rel => exact ⟨i + 1,by omega,by omega,by go_num,HE.out⟩
          case measure => show j - ((i:Int) + 1).toNat < j - (i:Int).toNat; omega
       ·
        have hii:¬ (i:Int) < (n:Int):=by omega
        obtain rfl:i = n:=by omega
        have HE:=hid (show Kept wB w9∧∃ Z,DS wB w9 i (k + 1) M g pd f s (s * lastP M (psOf f (k + 1))) bk cp Z from ⟨R.out.1,by obtain ⟨Z,h⟩:=R.out.2; exact ⟨Z,h.fin⟩⟩)
        --%ZB
        go_wp2_with fail
        go_roundw
        case rel => exact ⟨k + 1,by omega,by go_num,HE.out.1,f,s,by obtain ⟨Z,h⟩:=HE.out.2; exact h.inv,by obtain ⟨Z,h⟩:=HE.out.2; exact h.d,fun _ => by obtain ⟨Z,h⟩:=HE.out.2; exact ⟨g,bk,cp,Z,rfl,h⟩⟩
        case measure => show i - ((k:Int) + 1).toNat < i - (k:Int).toNat; omega
    ·
     have hqq:¬ (q:Int) < (n:Int):=by omega
     obtain rfl:q = n:=by omega
     have hqn3:((q:Int) == (q:Int)) = true:=by simp
     have hz:=H4.out.2.inv.zero hkt fun i h1 h2 => R.out.2 i h1 h2
     have KR:=H4.out.1.trans R.out.1
     have hr:=HB.out.2.1.kept KR
     have x0:=hr.cell 0 _ rfl
     have x1:=hr.cell 1 _ rfl
     have f0:=hr.fz 0
     have f1:=hr.fz 1
     have HZ:=hid (And.intro hz (((HB.out.1.trans KR).setCell (p:=⟨pR,0,none⟩) HB.out.2.2 (.bool false)).setCell (p:=⟨pR,1,none⟩) HB.out.2.2 (.slice none 0 0)))
     clear hz KR hr
     --%ZC
     go_wp2
     exact bodyPost_ret (v:=.agg #[.bool false,.slice none 0 0]) (by simp [results,Tryz.results21,go_sem,x0,x1]) rfl ⟨HZ.out.2,false,none,0,0,0,rfl,⟨[],D.Sl.nil _ none 0,⟨D.Bd_nil,(.inl rfl),fun _ => rfl⟩,rfl⟩,by rw [HZ.out.1]; rfl,Nat.zero_le _⟩
  ·
   have hkk:¬ (k:Int) < (n:Int):=by omega
   obtain rfl:k = n:=by omega
   obtain ⟨hK4,f,s,hI,⟨⟨s1,a1,k1,c1,t1,b1,l1,d1,y0,y1,y2,y3,n1,n2,m1,m2⟩,hfz⟩,_⟩:=J.out
   have hr:=HB.out.2.1.kept hK4
   have x0:=hr.cell 0 _ rfl
   have x1:=hr.cell 1 _ rfl
   have f0:=hr.fz 0
   have f1:=hr.fz 1
   have e1:NX w4 (w4.setCell ⟨pR,0,none⟩ (.bool s1)):=NX.set x0 (noint_bool _) _
   have x1':(w4.setCell ⟨pR,0,none⟩ (.bool s1)).cell? ⟨pR,1,none⟩ = some (.slice none 0 0):=by rw [sc_other (addr_ne fun _ => by decide)]; exact x1
   have e2:NX (w4.setCell ⟨pR,0,none⟩ (.bool s1)) ((w4.setCell ⟨pR,0,none⟩ (.bool s1)).setCell ⟨pR,1,none⟩ (.slice a1 k1 c1)):=NX.set x1' (noint_slice _ _ _) _
   have HZ:=hid (And.intro hI.fin (And.intro (((HB.out.1.trans hK4).setCell (p:=⟨pR,0,none⟩) HB.out.2.2 (.bool s1)).setCell (p:=⟨pR,1,none⟩) HB.out.2.2 (.slice a1 k1 c1)) (And.intro ((e1.trans e2) _ _ _ n1) m1)))
   clear hI hK4 n1 n2 hr e1 e2 x1' hfz m1 m2
   --%ZD
   go_wp2
   exact bodyPost_ret (v:=.agg #[.bool s1,.slice a1 k1 c1]) (by simp [results,Tryz.results21,go_sem,x0,x1]) rfl ⟨HZ.out.2.1,s1,a1,k1,c1,_,rfl,HZ.out.2.2.1,HZ.out.1.symm,HZ.out.2.2.2⟩
end Bp
end Go.Proofs.YtdcfammglpebaaaGreat

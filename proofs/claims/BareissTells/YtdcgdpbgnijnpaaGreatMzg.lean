/- bareiss.tableOf. -/
import Derived.Test.YtdcgdpbgnijnpaaGreatGar
import Derived.Test.YtdcgdpbgnijnpaaGreatGat
namespace Go.Proofs.YtdcgdpbgnijnpaaGreat
open Go.RowKit
open V (RowL RowL.alloc RowL.lt RowL.cell RowL.fz RowL.kept)
open Sp (hid own_keptK)
open Sy
open Bm (ZI ZI.kept MxR mxr_at mxr_kept cel_at mOk)
namespace Bp
def rowF (cs:List CE):Nat→Int:=cs.foldl (fun f c => upd f c.col.toNat (M.int c.val.neg c.val.lim)) (fun _ => 0)
theorem rowF_take {cs:List CE} {k:Nat} (hk:k < cs.length):rowF (cs.take (k + 1)) = upd (rowF (cs.take k)) cs[k].col.toNat (M.int cs[k].val.neg cs[k].val.lim):=by
 unfold rowF
 rw [List.take_succ_eq_append_getElem hk,List.foldl_append]
 rfl
def matF (L:List LE):Nat→Nat→Int:=fun i => rowF (L.getD i ⟨none,0,[]⟩).cs
theorem cOk_get {n:Nat}:∀ {cs:List CE} {last:Int},cOk n last cs = true→∀ k (hk:k < cs.length),last < cs[k].col∧cs[k].col < (n:Int)∧cs[k].val.right = true∧cs[k].val.nought = false:=by
 intro cs
 induction cs with
 | nil => intro last _ k hk; exact absurd hk (Nat.not_lt_zero _)
 | cons c t ih =>
  intro last h k hk
  have h:(((decide (last < c.col) && decide (c.col < (n:Int))) && (c.val.right && !c.val.nought)) && cOk n c.col t) = true:=h
  simp only [Bool.and_eq_true,decide_eq_true_eq] at h
  obtain ⟨⟨⟨h1,h2⟩,h3,h4⟩,h5⟩:=h
  cases k with
  | zero => exact ⟨h1,h2,h3,by simpa using h4⟩
  | succ k =>
   have:=ih h5 k (by simpa using hk)
   exact ⟨by show last < (t[k]'(by simpa using hk)).col; omega,this.2⟩
theorem cOk_len {n:Nat}:∀ {cs:List CE} {last:Int},cOk n last cs = true→last≤(n:Int) - 1→(cs.length:Int)≤(n:Int) - 1 - last:=by
 intro cs
 induction cs with
 | nil => intro last _ h; simp; omega
 | cons c t ih =>
  intro last h hl
  have h:(((decide (last < c.col) && decide (c.col < (n:Int))) && (c.val.right && !c.val.nought)) && cOk n c.col t) = true:=h
  simp only [Bool.and_eq_true,decide_eq_true_eq] at h
  obtain ⟨⟨⟨h1,h2⟩,_⟩,h5⟩:=h
  have:=ih h5 (by omega)
  rw [List.length_cons]
  omega
structure TabU (Bo B:Nat) (w:World) (v:Value) (n i:Nat) (bs:List Nat) (F:Nat→Nat→Int):Prop where
 len:bs.length = i
 own:w.ownsRow Bo 85 1 v i (bs.map fun b => Value.map (some b))
 nd:bs.Nodup
 row:∀ j (hj:j < bs.length),NumM B w bs[j] n (F j)
theorem TabU.tab {Bo B n:Nat} {w:World} {v:Value} {bs:List Nat} {F:Nat→Nat→Int} (h:TabU Bo B w v n n bs F) (hB:B≤Bo):∃ (ao:Option Addr) (cap bt:Nat),v = .slice ao n cap∧TabR B w ao bt n (fun i => bs[i]?) F:=by
 have hrow:∀ i,i < n→RowM B w (.map (bs[i]?)) n (F i):=fun i hi => by
  have hj:i < bs.length:=by rw [h.len]; exact hi
  exact .inr ⟨bs[i],by rw [List.getElem?_eq_getElem hj],h.row i hj⟩
 have hone:∀ i j b,i < n→j < n→bs[i]? = some b→bs[j]? = some b→i = j:=fun i j b hi _ h1 h2 =>
  (List.getElem?_inj (by rw [h.len]; exact hi) h.nd).1 (h1.trans h2.symm)
 rcases h.own.2 with ⟨rfl,h0⟩ | ⟨g,cap,cur,rfl,hg1,hg2,hg3,hg4,hg5,hg6⟩
 ·
  exact ⟨none,0,0,by rw [h0],⟨fun h => by omega,hrow,hone⟩⟩
 ·
  refine ⟨some ⟨g,0,none⟩,cap,g,rfl,⟨fun _ => ⟨rfl,Nat.le_trans hB hg1,cap,fun i => (cur[i]?).getD undef,hg3,⟨cur,hg2,by omega,fun i hi => ?_⟩,fun i hi => ?_⟩,hrow,hone⟩⟩
  ·
   have hi':i < cur.size:=by omega
   simp [hi']
  ·
   have hj:i < bs.length:=by rw [h.len]; exact hi
   have e:(bs.map fun b => Value.map (some b))[i]? = some (.map (bs[i]?)):=by rw [List.getElem?_map,List.getElem?_eq_getElem hj]; rfl
   rw [← hg6,List.getElem?_take_of_lt (by omega),Array.getElem?_toList] at e
   show (cur[i]?).getD undef = _
   rw [e]; rfl
theorem und_tab:Tryz.prog.underlying 70 = some (.slice 85):=by kernel_rfl
theorem info_numbers:(Tryz.prog.info? 85).map (fun i => (i.zero,i.size,i.bytes)) = some (some (.map none),1,8):=by kernel_rfl
set_option maxRecDepth 100000 in
set_option maxHeartbeats 16000000 in
theorem tableOf_any (B:Nat) (ao:Option Addr) (n c:Nat) (L:List LE) (w:World) (h:MxR w ao L) (hl:n = L.length) (hok:mOk L = true) (hB:B≤w.heap.size) :
  Calls Tryz.prog 21 #[.slice ao n c] w fun e w' => Kept w w'∧∃ v,e = .returned v∧∃ bs,TabU w.heap.size B w' v n n bs (matF L):=by
 unfold mOk at hok
 rw [Bool.and_eq_true,decide_eq_true_eq,List.all_eq_true] at hok
 rw [← hl] at hok
 have hn:n≤48:=hok.1
 have HL:=hid (And.intro h (And.intro hl (And.intro hok.2 hB)))
 clear h hl hok hB
 obtain ⟨i0,hi,hz0,hz1,hz2⟩:=info_parts info_numbers
 go_enter Tryz.func21,Tryz.ntmps21
 go_wp2
 go_loopw [3,11] (fun v3 v11 wr => ∃ (i:Nat) (bv:Value) (bs:List Nat),i≤n∧v3 = bv∧v11 = .int .i64 (i:Int)∧Hid (Kept w wr∧TabU w.heap.size B wr bv n i bs (matF L))) (fun _ v11 _ => n - (intOf v11).toNat)
 case atStart => exact ⟨0,_,[],Nat.zero_le _,rfl,rfl,Kept.refl _,⟨rfl,World.ownsRow_nil _ _ _ _,List.nodup_nil,fun j hj => absurd hj (Nat.not_lt_zero _)⟩⟩
 case round =>
  obtain ⟨i,bv,bs,hil,rfl,rfl,H⟩:=hrel
  generalize wr = w1 at H ⊢
  by_cases hit:i < n
  ·
   have hii:(i:Int) < (n:Int):=by omega
   have hi0:(0:Int)≤(i:Int):=by omega
   have hiL:i < L.length:=by have:=HL.out.2.1; omega
   obtain ⟨b,off,ra,rc,cs,rfl,e1,hc,hCs⟩:=mxr_at HL.out.1 hiL
   have hck:=HL.out.2.2.1 L[i] (List.getElem_mem hiL)
   rw [e1] at hck
   have hcn:=cOk_len hck (by omega)
   have hF:rowF cs = matF L i:=by unfold matF; rw [List.getD_eq_getElem?_getD,List.getElem?_eq_getElem hiL]; simp only [Option.getD_some]; rw [e1]
   obtain ⟨cl,hcl⟩:∃ l,l = cs.length:=⟨_,rfl⟩
   rw [← hcl] at hc hcn
   have hcn:cl≤48:=by omega
   have c0:=hc _ H.out.1
   have HC:=hid (And.intro hCs (And.intro (cOk_get hck) (And.intro hF hcl)))
   clear hc e1 hck hF hCs hcl
   have hMd:=NumM.made B w1 n (by have:=H.out.1.size; have:=HL.out.2.2.2; omega)
   have kM:=(Kept.refl w1).alloc (.map #[] 0)
   have hmm:=@run_makeMap Tryz.prog
   --%A
   go_upto_region 6 with fail
   clear hmm c0
   obtain ⟨m,hm⟩:∃ m,m = w1.heap.size:=⟨_,rfl⟩
   rw [← hm] at hMd ⊢
   generalize w1.alloc (.map #[] 0) = w2 at hMd kM ⊢
   have HM:=hid (And.intro hMd (And.intro kM hm))
   clear hMd kM hm
   go_wp2
   go_loopw [18] (fun v18 wr => ∃ k:Nat,k≤cl∧v18 = .int .i64 (k:Int)∧Hid (Kept w1 wr∧NumM B wr m n (rowF (cs.take k)))) (fun v18 _ => cl - (intOf v18).toNat)
   case atStart => exact ⟨0,Nat.zero_le _,rfl,HM.out.2.1,by rw [List.take_zero]; exact HM.out.1⟩
   case round =>
    obtain ⟨k,hkl,rfl,J⟩:=hrel
    generalize wr = w3 at J ⊢
    by_cases hkt:k < cl
    ·
     have hkk:(k:Int) < (cl:Int):=by omega
     have hk0:(0:Int)≤(k:Int):=by omega
     have hkL:k < cs.length:=by have:=HC.out.2.2.2; omega
     obtain ⟨b',off',y,mg,zo,zc,zl,rfl,e1,hc,hz⟩:=cel_at HC.out.1 hkL
     obtain ⟨g1,g2,g3,g4⟩:=HC.out.2.1 k hkL
     have hT:=rowF_take hkL
     obtain ⟨cz,hcz⟩:∃ z:Nat,cs[k].col = (z:Int):=⟨cs[k].col.toNat,by omega⟩
     rw [hcz,Int.toNat_natCast] at hT
     rw [e1] at hcz hT g3 g4
     have hcz:y = (cz:Int):=hcz
     subst hcz
     have hczn:cz < n:=by
      rw [e1] at g2
      have g2:(cz:Int) < (n:Int):=g2
      omega
     have c1:=hc _ (H.out.1.trans J.out.1)
     have hzi:ZI w mg (.slice zo zl.length zc) (M.int mg zl):=ZI.of (z:=⟨mg,zo,zc,zl⟩) hz g3
     have hz0:M.int mg zl ≠ 0:=fun e => by
      have:=(ZI.zero hzi).2 e
      have g4:decide (zl.length = 0) = false:=g4
      rw [decide_eq_false_iff_not] at g4
      exact g4 this
     have hT:rowF (cs.take (k + 1)) = upd (rowF (cs.take k)) cz (M.int mg zl):=hT
     obtain ⟨zv,hzv⟩:∃ z,z = M.int mg zl:=⟨_,rfl⟩
     rw [← hzv] at hzi hz0 hT
     obtain ⟨zn,hzn⟩:∃ k,k = zl.length:=⟨_,rfl⟩
     rw [← hzn] at hzi c1
     have HZ:=hid (And.intro hzi (And.intro hz0 (And.intro hT hczn)))
     clear hc hz g1 g2 g3 g4 e1 hT hzi hz0 hzv hzn hczn
     have rA:=RowL.alloc 39 w3 [.int .i64 (cz:Int),.bool mg,.slice zo zn zc]
     have kA:=(Kept.refl w3).alloc (.cells #[.int .i64 (cz:Int),.bool mg,.slice zo zn zc] 39)
     --%B
     go_upto_region 9 with fail
     generalize w3.alloc (.cells #[.int .i64 (cz:Int),.bool mg,.slice zo zn zc] 39) = W at rA kA ⊢
     obtain ⟨p,hp⟩:∃ p,p = w3.heap.size:=⟨_,rfl⟩
     rw [← hp] at rA ⊢
     clear hp c1
     have HW:=hid (And.intro kA rA)
     have sS:=hid (fun (V:World) (R:RowL 39 V p [.int .i64 (cz:Int),.bool mg,.slice zo zn zc]) => And.intro (R.cell 0 _ rfl) (And.intro (R.cell 1 _ rfl) (R.cell 2 _ rfl)))
     have KT:Kept W W.drew:=(Kept.refl _).drew
     refine wp_region_held_drew (S:=fun w' => w'.cell? ⟨p,0,none⟩ = some (.int .i64 (cz:Int))∧w'.cell? ⟨p,1,none⟩ = some (.bool mg)∧w'.cell? ⟨p,2,none⟩ = some (.slice zo zn zc)) (by kernel_rfl) (sS.out _ (rA.kept KT)) (fun hHeld => ?_)
     clear kA rA
     generalize W.drew = Wd at KT hHeld ⊢
     refine wk 0 hHeld ?_
     refine wk 1 hHeld ?_
     refine wk 2 hHeld ?_
     refine wk 3 hHeld ?_
     refine wk 4 hHeld ?_
     refine wpAnyH_ready (rs:=[5]) (by kernel_rfl) (by simp) ?_
     refine AllReadyH.cons rfl (fun K hK => ?_) AllReadyH.nil
     go_simp
     refine (dupl_any mg zo zn zc zv Wd (HZ.out.1.kept (H.out.1.trans (J.out.1.trans (HW.out.1.trans KT)))) HZ.out.2.1).mono ?_
     rintro e u1 ⟨hu,t1,t2,t3,t4,rfl,hN⟩
     refine hK.out _ _ (sS.out _ (HW.out.2.kept (KT.trans hu))) (fun hHeld => ?_)
     clear hK K
     have KU:=HW.out.1.trans (KT.trans hu)
     have hM:=J.out.2.kept KU
     obtain ⟨w5,hrun,hM5,hx5,hs5⟩:=hM.store HZ.out.2.2.2 HZ.out.2.1 (hN.mono (by have h1:=KU.size; have h2:=(HW.out.1.trans KT).size; have h3:=J.out.1.size; have h4:=H.out.1.size; have h5:=HL.out.2.2.2; omega)).nv
     have H5:=hid (And.intro (KX.kept (J.out.1.trans KU) hx5 (fun q e => by subst e; have:=HM.out.2.2; omega)) (And.intro hM5 (RowL_kx (HW.out.2.kept (KT.trans hu)) hx5 (hM.free _))))
     clear hM hM5 hx5 hs5 hN hu KU
     --%C
     refine wpAnyH_ready (rs:=[6]) (by kernel_rfl) (by simp) ?_
     refine AllReadyH.cons rfl (fun K hK => ?_) AllReadyH.nil
     go_simp
     refine hK.out _ _ (sS.out _ H5.out.2.2) (fun hHeld => ?_)
     clear hK K hrun KT
     refine wpAnyH_done (by kernel_rfl) ?_ _
     go_wp2_with fail
     go_roundw
     case rel => exact ⟨k + 1,by omega,by go_num,H5.out.1,by rw [HZ.out.2.2.1]; exact H5.out.2.1⟩
     case measure => show cl - ((k:Int) + 1).toNat < cl - (k:Int).toNat; omega
    ·
     have hkk:¬ (k:Int) < (cl:Int):=by omega
     have hkc:k = cl:=by omega
     subst hkc
     have HRow:=hid (show NumM B w3 m n (matF L i) from by
      have:=J.out.2
      rw [HC.out.2.2.2,List.take_length,HC.out.2.2.1] at this
      exact this)
     have K3:=J.out.1
     have HO:=hid (And.intro (own_keptK H.out.2.own K3) (And.intro K3 (And.intro (fun j (hj:j < bs.length) => (H.out.2.row j hj).kept K3) (show w.heap.size≤w3.heap.size from (H.out.1.trans K3).size))))
     have hbl:bs.length = i:=H.out.2.len
     have hBs:w.heap.size≤w3.heap.size:=HO.out.2.2.2
     clear K3 hbl
     --%D
     go_wp2_with (at_builtin; refine wpList_append_lies _ rfl (.tmp 29) (.tmp 31) 70 rfl w.heap.size 85 i0 (.map none) 1 8 und_tab hi hz0 hz1 hz2 rfl (by decide) u3 i (bs.map fun b => Value.map (some b)) rfl (by exact World.ownsRow.alloc HO.out.1 _) ⟨w3.heap.size,0,none⟩ 1 1 [.map (some m)] rfl rfl (Sp.cell_new w3 _ _) (fun u hu => by simp at hu; subst hu; rfl) (by omega) (by unfold maxLen; omega) (by omega) (by simp; omega) _ rfl ?_)
     intro G cap2 w5 hO hgr _ _
     have kA:=(Kept.refl w3).alloc (.cells #[.map (some m)] 85)
     have hOw:=World.ownsRow.alloc HO.out.1 (.cells #[.map (some m)] 85)
     have hRo:=hid (fun j (hj:j < bs.length) => (HO.out.2.2.1 j hj).kept kA)
     have hRm:=HRow.out.kept kA
     generalize w3.alloc (.cells #[.map (some m)] 85) = W5 at kA hgr hOw hRo hRm
     have hfr:Free 40 (fun q => u3.ownBlock = some q) W5:=by
      intro q hq cur fr e
      rcases hOw.2 with ⟨rfl,_⟩ | ⟨g,_,_,rfl,_,hg2,_⟩
      ·
       cases hq
      ·
       cases hq
       rw [hg2] at e
       injection e with e
       injection e with _ e2
       exact absurd e2 (by decide)
     have hnb:∀ q n' f,NumM B W5 q n' f→¬ u3.ownBlock = some q:=by
      intro q n' f hm hq
      obtain ⟨_,es,clock,h5,_⟩:=hm
      rcases hOw.2 with ⟨rfl,_⟩ | ⟨g,_,_,rfl,_,hg2,_⟩
      ·
       cases hq
      ·
       cases hq
       rw [h5] at hg2; cases hg2
     have kX:KX (fun q => u3.ownBlock = some q) W5 w5:=⟨hgr.os,hgr.tape,hgr.output,hgr.size,fun q hq hne => hgr.block q hq (fun e => hne e.symm)⟩
     have HQ:=hid (show Kept w w5∧TabU w.heap.size B w5 (.slice (some ⟨G,0,none⟩) (i + 1) cap2) n (i + 1) (bs ++ [m]) (matF L) from by
      refine ⟨KX.kept ((H.out.1.trans HO.out.2.1).trans kA) kX (fun q hq => ?_),⟨by rw [List.length_append,H.out.2.len]; rfl,?_,?_,fun j hj => ?_⟩⟩
      ·
       exact (World.ownsRow.lt hOw q hq).1
      ·
       rw [List.map_append]; exact hO
      ·
       refine List.nodup_append.2 ⟨H.out.2.nd,by simp,fun a ha b hb e => ?_⟩
       subst e
       rw [List.mem_singleton] at hb
       subst hb
       obtain ⟨j,hj,e⟩:=List.getElem_of_mem ha
       have h1:=(H.out.2.row j hj).lt
       have h2:=HM.out.2.2
       omega
      ·
       by_cases e:j < bs.length
       ·
        rw [List.getElem_append_left e]
        exact (hRo.out j e).kx kX hfr (hnb _ _ _ (hRo.out j e))
       ·
        have hji:j = bs.length:=by simp at hj; omega
        subst hji
        rw [List.getElem_append_right (Nat.le_refl _)]
        simp only [Nat.sub_self,List.getElem_cons_zero]
        rw [H.out.2.len]
        exact hRm.kx kX hfr (hnb _ _ _ hRm))
     clear kA hOw hgr hO kX hfr hnb hRo hRm
     go_wp2_with fail
     go_roundw
     case rel => exact ⟨i + 1,_,bs ++ [m],by omega,rfl,by go_num,HQ.out.1,HQ.out.2⟩
     case measure => show n - ((i:Int) + 1).toNat < n - (i:Int).toNat; omega
  ·
   have hii:¬ (i:Int) < (n:Int):=by omega
   have hin:i = n:=by omega
   subst hin
   go_wp2_with fail
   go_ret
   exact ⟨H.out.1,_,rfl,bs,H.out.2⟩
end Bp
end Go.Proofs.YtdcgdpbgnijnpaaGreat

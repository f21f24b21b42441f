/- shuntref13.Order. shuntref13.Fill. shuntref13.Same of equal lists; Copy. shuntref13.Copy. -/
import Derived.Test.YtlciijlgiknljaaGad
import Derived.Test.YtlciijlgiknljaaGab
namespace Go.Proofs.Ytlciijlgiknljaa
open Go.RowKit
open V (RowL RowL.alloc RowL.lt RowL.cell RowL.fz RowL.kept RowL.block RowL.set RowL.far)
namespace Sp
theorem MatU.mono {B B':Nat} {w:World} {v:Value} {n i:Nat} {m:Nat→Nat→Bool} (h:MatU B w v n i m) (hB:B'≤B):MatU B' w v n i m:=by
 obtain ⟨gs,h1,h2,h3⟩:=h
 exact ⟨gs,h1,own_mono h2 hB,fun j hj => ⟨Nat.le_trans hB (h3 j hj).1,(h3 j hj).2⟩⟩
theorem MatU.grown {B B':Nat} {w w':World} {v rv:Value} {n i len:Nat} {m:Nat→Nat→Bool} {xs:List Value} (h:MatU B w v n i m) (ho:w.ownsRow B' 3 1 rv len xs) (hg:w.grownBy w' rv.ownBlock):MatU B w' v n i m:=by
 obtain ⟨gs,h1,h2,h3⟩:=h
 refine ⟨gs,h1,own_kept h2 (fun b hb => hg.block b (World.ownsRow.lt h2 b hb).2 (fun e => own_apart h2 ho (by decide) b hb e.symm)),fun j hj => ⟨(h3 j hj).1,(h3 j hj).2.block (hg.block _ (h3 j hj).2.lt (fun e => own_row ho (h3 j hj).2 (by decide) e.symm))⟩⟩
theorem OwnI.grown {B:Nat} {w w':World} {v rv:Value} {l:List Int} (h:OwnI B w v l) (ha:∀ b,v.ownBlock = some b→rv.ownBlock ≠ some b) (hg:w.grownBy w' rv.ownBlock):OwnI B w' v l :=
 own_kept h (fun b hb => hg.block b (World.ownsRow.lt h b hb).2 (fun e => ha b hb e.symm))
def lenOf (v:Value):Nat:=match v with
 | .slice _ n _ => n
 | _ => 0
theorem lenOf_own {w:World} {B:Nat} {e:TypeId} {sz n:Nat} {v:Value} {xs:List Value} (h:w.ownsRow B e sz v n xs):lenOf v = n:=by
 obtain ⟨_,_,rfl⟩:=own_shape h
 rfl
def orderS (P:List (List Int)):List (Nat × Nat):=if okP P = true then orderL P.length P.length (mP P) else []
def fstI (l:List (Nat × Nat)):List Int:=l.map fun q => (q.1:Int)
def sndI (l:List (Nat × Nat)):List Int:=l.map fun q => (q.2:Int)
theorem orderL_none {n j:Nat} {m:Nat→Nat→Bool} (h:bestOf n m = none):orderL n j m = []:=by
 cases j with
 | zero => rfl
 | succ j => unfold orderL; rw [h]
theorem orderL_some {n j:Nat} {m:Nat→Nat→Bool} {q:Nat × Nat} (h:bestOf n m = some q) (hj:(live n m).length≤j):∃ j',orderL n j m = q :: orderL n j' (elim m q.1 q.2)∧(live n (elim m q.1 q.2)).length≤j'∧(live n (elim m q.1 q.2)).length < (live n m).length:=by
 have hq:=best_some.1 (show bestOf n m = some (q.1,q.2) from h)
 have hf:=live_falls hq.row hq.col hq.isin
 cases j with
 | zero => omega
 | succ j =>
  refine ⟨j,?_,by omega,hf⟩
  rw [orderL,h]
structure OrdI (B n:Nat) (m0:Nat→Nat→Bool) (w:World) (rv cv mv:Value) (dn:List (Nat × Nat)) (cur:Nat→Nat→Bool) (j:Nat):Prop where
 rows:OwnI B w rv (fstI dn)
 cols:OwnI B w cv (sndI dn)
 apart:∀ b,rv.ownBlock = some b→cv.ownBlock ≠ some b
 mat:MatU B w mv n n cur
 all:orderL n n m0 = dn ++ orderL n j cur
 enough:(live n cur).length≤j
 short:dn.length + (live n cur).length≤n
set_option maxRecDepth 100000 in
set_option maxHeartbeats 8000000 in
theorem rorder_any (ao:Option Addr) (n c:Nat) (P:List (List Int)) (w:World) (h:PatR w (.slice ao n c) P) (hn:n≤1000000) (hr:∀ l ∈ P,l.length≤1000000) :
  Calls Try.prog 19 #[.slice ao n c] w fun e w' => Kept w w'∧∃ v u,e = .returned (.tuple #[v,u,.int .i64 (chkP P)])∧OwnI w.heap.size w' v (fstI (orderS P))∧OwnI w.heap.size w' u (sndI (orderS P))∧∀ b,v.ownBlock = some b→u.ownBlock ≠ some b:=by
 have hl:=h.len
 have HL:=hid (And.intro h (And.intro hl hr))
 obtain ⟨i1,hj,hy0,hy1,hy2⟩:=info_parts info_i64
 obtain ⟨x,hx⟩:∃ x,x = orderS P:=⟨_,rfl⟩
 obtain ⟨y,hy⟩:∃ y,y = chkP P:=⟨_,rfl⟩
 rw [← hx,← hy]
 have HZ:=hid (And.intro hx hy)
 clear h hl hr hx hy
 go_enter Try.func19,Try.ntmps19
 go_wp2_with fail
 refine (rcheck_any ao n c P _ HL.out.1 hn HL.out.2.2).mono ?_
 rintro e w1 ⟨hk,rfl⟩
 have HK:=hid hk
 clear hk
 cases hok:okP P with
 | false =>
  have hc:chkP P = 130:=by unfold chkP; rw [if_neg (by rw [hok]; decide)]
  have HE:=hid (show x = []∧y = 130 by rw [HZ.out.1,HZ.out.2,hc]; unfold orderS; rw [if_neg (by rw [hok]; decide)]; exact ⟨rfl,rfl⟩)
  rw [hc]
  clear hc hok
  go_wp2_with fail
  go_ret3
  exact ⟨HK.out,_,_,by rw [HE.out.2]; rfl,by rw [HE.out.1]; exact World.ownsRow_nil _ _ _ _,by rw [HE.out.1]; exact World.ownsRow_nil _ _ _ _,fun b hb => by cases hb⟩
 | true =>
  have hc:chkP P = 0:=by unfold chkP; rw [if_pos hok]
  have hn48:n≤48:=by have:=okP_len hok; have:=HL.out.2.1; omega
  have HE:=hid (show x = orderL n n (mP P)∧y = 0 by rw [HZ.out.1,HZ.out.2,hc]; unfold orderS; rw [if_pos hok,← HL.out.2.1]; exact ⟨rfl,rfl⟩)
  rw [hc]
  have HOK:=hid hok
  clear hc hok HZ
  go_wp2_with fail
  refine (full_any ao n c P _ (HL.out.1.kept HK.out) HOK.out).mono ?_
  rintro e w2 ⟨hk,v,rfl,hM⟩
  obtain ⟨va,vc,rfl⟩:=hM.shape
  have HK1:=hid (HK.out.trans hk)
  have HM:=hid (hM.mono HK.out.size)
  clear hk hM HK
  generalize hm0:mP P = m0 at HM HE
  clear hm0
  go_wp2_with fail
  refine (choose_any va n vc m0 _ HM.out.mat hn48).mono ?_
  rintro e w3 ⟨rfl,rfl⟩
  go_wp2_with fail
  --%A
  go_loopw [5,6,7,8,9,10] (fun v5 v6 v7 v8 v9 v10 wr => ∃ (dn:List (Nat × Nat)) (cur:Nat→Nat→Bool) (j:Nat) (rv cv:Value) (ma:Option Addr) (mc:Nat) (o:Option (Nat × Nat)),v5 = rv∧v6 = cv∧v7 = .slice ma n mc∧v8 = .int .i64 (rO o:Int)∧v9 = .int .i64 (cO o:Int)∧v10 = .bool o.isSome∧Hid (Kept w wr∧OrdI w.heap.size n m0 wr rv cv (.slice ma n mc) dn cur j∧o = bestOf n cur)) (fun v5 _ _ _ _ _ _ => n - lenOf v5)
  case atStart => exact ⟨[],m0,n,_,_,va,vc,_,rfl,rfl,rfl,rfl,rfl,rfl,HK1.out,⟨World.ownsRow_nil _ _ _ _,World.ownsRow_nil _ _ _ _,(fun b hb => by cases hb),HM.out,rfl,live_le n m0,by have:=live_le n m0; simpa using this⟩,rfl⟩
  case round =>
   obtain ⟨dn,cur,j,rv,cv,ma,mc,o,rfl,rfl,rfl,rfl,rfl,rfl,H⟩:=hrel
   clear HM
   cases o with
   | none =>
    --%N
    have HX:=hid (show x = dn by rw [HE.out.1,H.out.2.1.all,orderL_none H.out.2.2.symm,List.append_nil])
    go_wp2_with fail
    go_ret3
    exact ⟨H.out.1,_,_,by rw [HE.out.2]; rfl,by rw [HX.out]; exact H.out.2.1.rows,by rw [HX.out]; exact H.out.2.1.cols,H.out.2.1.apart⟩
   | some q =>
    --%S
    obtain ⟨q1,q2⟩:=q
    rw [show rO (some (q1,q2)) = q1 from rfl,show cO (some (q1,q2)) = q2 from rfl]
    obtain ⟨j',ho,hle,hlt⟩:=orderL_some H.out.2.2.symm H.out.2.1.enough
    have hq:=best_some.1 H.out.2.2.symm
    have HN:=hid (And.intro (show orderL n n m0 = (dn ++ [(q1,q2)]) ++ orderL n j' (elim cur q1 q2) by rw [H.out.2.1.all,ho,List.append_assoc]; rfl) (And.intro hle (show (dn ++ [(q1,q2)]).length + (live n (elim cur q1 q2)).length≤n by have h1:=H.out.2.1.short; rw [List.length_append]; show dn.length + 1 + _≤n; have h2:(live n (elim cur q1 q2)).length < (live n cur).length:=hlt; omega)))
    have hdl:dn.length + 1≤n:=by have h1:=H.out.2.1.short; have h2:(live n (elim cur q1 q2)).length < (live n cur).length:=hlt; omega
    have HQ:=hid (And.intro hq.row hq.col)
    obtain ⟨l1,hl1⟩:∃ l,l = fstI dn:=⟨_,rfl⟩
    obtain ⟨l2,hl2⟩:∃ l,l = sndI dn:=⟨_,rfl⟩
    have HL12:=hid (And.intro (show fstI (dn ++ [(q1,q2)]) = l1 ++ [(q1:Int)] by rw [hl1]; unfold fstI; rw [List.map_append]; rfl) (show sndI (dn ++ [(q1,q2)]) = l2 ++ [(q2:Int)] by rw [hl2]; unfold sndI; rw [List.map_append]; rfl))
    have hb1:l1.length≤48:=by rw [hl1]; unfold fstI; rw [List.length_map]; omega
    have hb2:l2.length≤48:=by rw [hl2]; unfold sndI; rw [List.length_map]; omega
    have HLN:=hid (show l1.length = dn.length by rw [hl1]; unfold fstI; rw [List.length_map])
    have HR:=hid (And.intro (show OwnI w.heap.size wr u5 l1 by rw [hl1]; exact H.out.2.1.rows) (And.intro (show OwnI w.heap.size wr u6 l2 by rw [hl2]; exact H.out.2.1.cols) (And.intro H.out.2.1.apart H.out.2.1.mat)))
    have HKW:=hid H.out.1
    clear ho hle hlt hq hl1 hl2 H
    have hsz:=HKW.out.size
    --%T
    go_wp2_with (at_builtin; refine wpList_append_lies _ rfl (.tmp 23) (.tmp 25) 41 rfl w.heap.size 3 i1 (.int .i64 0) 1 8 und_ints hj hy0 hy1 hy2 rfl (by decide) u5 l1.length (l1.map (Value.int .i64)) rfl (by exact World.ownsRow.alloc HR.out.1 _) ⟨wr.heap.size,0,none⟩ 1 1 [.int .i64 (q1:Int)] rfl rfl (cell_new wr _ _) (fun u hu => by simp at hu; subst hu; rfl) (by omega) (by unfold maxLen; omega) (by omega) (by simp; omega) _ rfl ?_)
    intro G1 cap1 w5 hO hgr hG _
    have kA:=(Kept.refl wr).alloc (.cells #[.int .i64 (q1:Int)] 3)
    have hOw:=World.ownsRow.alloc HR.out.1 (.cells #[.int .i64 (q1:Int)] 3)
    have hC1:OwnI w.heap.size _ u6 l2:=World.ownsRow.alloc HR.out.2.1 (.cells #[.int .i64 (q1:Int)] 3)
    have hWs:(wr.alloc (.cells #[.int .i64 (q1:Int)] 3)).heap.size = wr.heap.size + 1:=by simp
    generalize wr.alloc (.cells #[.int .i64 (q1:Int)] 3) = W5 at kA hgr hOw hC1 hWs hG
    have KW5:Kept w w5:=Below.grown (HKW.out.trans kA) hgr (HKW.out.trans kA).size (fun k hk => (World.ownsRow.lt hOw k hk).1)
    have hC5:OwnI w.heap.size w5 u6 l2:=hC1.grown (fun b hb e => HR.out.2.2.1 b e hb) hgr
    have hM5:=(HR.out.2.2.2.kept kA).grown hOw hgr
    have hA5:∀ b,u6.ownBlock = some b→¬ b = G1:=by
     intro b hb e
     rcases hG with hG | hG
     ·
      exact HR.out.2.2.1 b (by rw [e]; exact hG) hb
     ·
      have:=(World.ownsRow.lt HR.out.2.1 b hb).2
      omega
    have HR5:=hid (And.intro KW5 (And.intro (OwnI.snoc hO) (And.intro hC5 (And.intro hA5 hM5))))
    clear kA hOw hC1 hWs hgr hG hO KW5 hC5 hM5 hA5 hsz
    have hsz:=HR5.out.1.size
    --%U
    go_wp2_with (at_builtin; refine wpList_append_lies _ rfl (.tmp 27) (.tmp 29) 41 rfl w.heap.size 3 i1 (.int .i64 0) 1 8 und_ints hj hy0 hy1 hy2 rfl (by decide) u6 l2.length (l2.map (Value.int .i64)) rfl (by exact World.ownsRow.alloc HR5.out.2.2.1 _) ⟨w5.heap.size,0,none⟩ 1 1 [.int .i64 (q2:Int)] rfl rfl (cell_new w5 _ _) (fun u hu => by simp at hu; subst hu; rfl) (by omega) (by unfold maxLen; omega) (by omega) (by simp; omega) _ rfl ?_)
    intro G2 cap2 w6 hO hgr hG _
    have kA:=(Kept.refl w5).alloc (.cells #[.int .i64 (q2:Int)] 3)
    have hOw:=World.ownsRow.alloc HR5.out.2.2.1 (.cells #[.int .i64 (q2:Int)] 3)
    have hC1:OwnI w.heap.size _ (.slice (some ⟨G1,0,none⟩) (l1.length + 1) cap1) (l1 ++ [(q1:Int)]):=World.ownsRow.alloc HR5.out.2.1 (.cells #[.int .i64 (q2:Int)] 3)
    have hWs:(w5.alloc (.cells #[.int .i64 (q2:Int)] 3)).heap.size = w5.heap.size + 1:=by simp
    generalize w5.alloc (.cells #[.int .i64 (q2:Int)] 3) = W6 at kA hgr hOw hC1 hWs hG
    have KW6:Kept w w6:=Below.grown (HR5.out.1.trans kA) hgr (HR5.out.1.trans kA).size (fun k hk => (World.ownsRow.lt hOw k hk).1)
    have hC6:OwnI w.heap.size w6 (.slice (some ⟨G1,0,none⟩) (l1.length + 1) cap1) (l1 ++ [(q1:Int)]):=hC1.grown (fun b hb e => HR5.out.2.2.2.1 b e (by cases hb; rfl)) hgr
    have hM6:=(HR5.out.2.2.2.2.kept kA).grown hOw hgr
    have hA6:¬ G1 = G2:=by
     intro e
     rcases hG with hG | hG
     ·
      exact HR5.out.2.2.2.1 G2 hG e.symm
     ·
      have:=(World.ownsRow.lt HR5.out.2.1 G1 rfl).2
      omega
    have HR6:=hid (And.intro KW6 (And.intro hC6 (And.intro (OwnI.snoc hO) (And.intro hA6 hM6))))
    clear kA hOw hC1 hWs hgr hG hO KW6 hC6 hM6 hA6 hsz HR5
    go_wp2_with fail
    --%V
    refine (rest_any ma n mc cur q1 q2 _ HR6.out.2.2.2.2.mat hn48 HQ.out.1 HQ.out.2).mono ?_
    rintro e w7 ⟨hk,mv,rfl,hU⟩
    obtain ⟨ua,uc,rfl⟩:=hU.shape
    have HR7:=hid (And.intro (HR6.out.1.trans hk) (And.intro (show OwnI w.heap.size w7 _ _ from own_keptK HR6.out.2.1 hk) (And.intro (show OwnI w.heap.size w7 _ _ from own_keptK HR6.out.2.2.1 hk) (And.intro HR6.out.2.2.2.1 (hU.mono HR6.out.1.size)))))
    clear hk hU HR6
    go_wp2_with fail
    refine (choose_any ua n uc _ _ HR7.out.2.2.2.2.mat hn48).mono ?_
    rintro e w8 ⟨rfl,rfl⟩
    go_wp2_with fail
    --%W
    go_roundw
    case rel => exact ⟨dn ++ [(q1,q2)],elim cur q1 q2,j',_,_,ua,uc,_,rfl,rfl,rfl,rfl,rfl,rfl,HR7.out.1,⟨by rw [HL12.out.1]; exact HR7.out.2.1,by rw [HL12.out.2]; exact HR7.out.2.2.1,(fun b hb e => HR7.out.2.2.2.1 (by cases hb; cases e; rfl)),HR7.out.2.2.2.2,HN.out.1,HN.out.2.1,HN.out.2.2⟩,rfl⟩
    case measure => show n - (l1.length + 1) < n - lenOf u5; have h1:=lenOf_own HR.out.1; have h2:=HLN.out; omega
end Sp
end Go.Proofs.Ytlciijlgiknljaa

namespace Go.Proofs.Ytlciijlgiknljaa
open Go.RowKit
open V (RowL RowL.alloc RowL.lt RowL.cell RowL.fz RowL.kept RowL.block RowL.set RowL.far)
namespace Sp
def fillGo (n:Nat):(Nat→Nat→Bool)→List (Int × Int)→Nat→Int × Int
 | _,[],all => ((all:Int),0)
 | m,q :: t,all => if hasM n m q.1 q.2 = true then fillGo n (elim m q.1.toNat q.2.toNat) t (all + fillC n m q.1.toNat q.2.toNat) else (0,1)
def fillS (P:List (List Int)) (rows cols:List Int):Int × Int:=if okP P = true then (if rows.length = cols.length then fillGo P.length (mP P) (rows.zip cols) 0 else (0,5)) else (0,130)
theorem zip_at {rows cols:List Int} {i:Nat} (h:i < rows.length) (he:rows.length = cols.length):(rows.zip cols).drop i = (rows.getD i 0,cols.getD i 0) :: (rows.zip cols).drop (i + 1):=by
 rw [List.drop_eq_getElem_cons (by rw [List.length_zip]; omega),List.getElem_zip,List.getD_eq_getElem?_getD,List.getD_eq_getElem?_getD,List.getElem?_eq_getElem h,List.getElem?_eq_getElem (by omega)]
 rfl
theorem fillC_le (n:Nat) (m:Nat→Nat→Bool) (r c:Nat) (hn:n≤48):fillC n m r c≤2304:=by
 have key:∀ i,fillU n m r c i≤i * 48:=by
  intro i
  induction i with
  | zero => exact Nat.le_refl _
  | succ i ih =>
   rw [fillU_step]
   have:=cnt_le (qF m r c i) n
   omega
 have:=key n
 rw [fillU_all] at this
 omega
end Sp
end Go.Proofs.Ytlciijlgiknljaa

namespace Go.Proofs.Ytlciijlgiknljaa
open Go.RowKit
open V (RowL RowL.alloc RowL.lt RowL.cell RowL.fz RowL.kept RowL.block RowL.set RowL.far)
namespace Sp
set_option maxRecDepth 100000 in
set_option maxHeartbeats 8000000 in
theorem same_any (a1:Option Addr) (n c1:Nat) (a2:Option Addr) (c2:Nat) (P:List (List Int)) (w:World) (h1:PatR w (.slice a1 n c1) P) (h2:PatR w (.slice a2 n c2) P) (hn:n≤1000000) (hr:∀ l ∈ P,l.length≤1000000) :
  Calls Try.prog 20 #[.slice a1 n c1,.slice a2 n c2] w fun e w' => Kept w w'∧e = .returned (.bool true):=by
 have hl:=h1.len
 have HL:=hid (And.intro h1 (And.intro h2 (And.intro hl hr)))
 clear h1 h2 hl hr
 go_enter Try.func20,Try.ntmps20
 go_wp2_with fail
 go_loopw [5] (fun v5 wr => ∃ (i:Nat),i≤n∧v5 = .int .i64 (i:Int)∧Hid (Kept w wr)) (fun v5 _ => n - (intOf v5).toNat)
 case atStart => exact ⟨0,Nat.zero_le _,rfl,Kept.refl _⟩
 case round =>
  obtain ⟨i,hil,rfl,H⟩:=hrel
  generalize wr = w1 at H ⊢
  by_cases hit:i < n
  ·
   have hii:(i:Int) < (n:Int):=by omega
   have hi0:(0:Int)≤(i:Int):=by omega
   have hiL:i < P.length:=by have:=HL.out.2.2.1; omega
   obtain ⟨b1,o1,rfl,ra,rc,hc1,hI1⟩:=HL.out.1.row hiL
   obtain ⟨b2,o2,rfl,ka,kc,hc2,hI2⟩:=HL.out.2.1.row hiL
   have hlen:(P.getD i []).length≤1000000:=HL.out.2.2.2 _ (by rw [List.getD_eq_getElem?_getD,List.getElem?_eq_getElem hiL]; exact List.getElem_mem hiL)
   generalize P.getD i [] = row at hc1 hc2 hI1 hI2 hlen
   obtain ⟨rl,hrl⟩:∃ r,r = row.length:=⟨_,rfl⟩
   rw [← hrl] at hc1 hc2 hI1 hI2 hlen
   have HC:=hid (And.intro hc1 (And.intro hc2 (And.intro hI1 (And.intro hI2 hrl))))
   clear hc1 hc2 hI1 hI2 hrl
   go_upto_region 6 with fail
   have kd:=H.out.trans (Kept.refl w1).drew
   refine wp_region_held_drew (S:=fun w' => w'.cell? ⟨b1,o1 + i,none⟩ = some (.slice ra rl rc)∧w'.cell? ⟨b2,o2 + i,none⟩ = some (.slice ka rl kc)) (by kernel_rfl) ⟨HC.out.1 _ kd,HC.out.2.1 _ kd⟩ (fun hHeld => ?_)
   have HK:=hid kd
   generalize w1.drew = w2 at HK hHeld ⊢
   clear kd H
   refine tk 0 hHeld ?_
   refine tk 1 hHeld ?_
   refine tk 2 hHeld ?_
   refine tk 3 hHeld ?_
   refine tk 4 hHeld ?_
   refine tk 5 hHeld ?_
   refine tk 6 hHeld ?_
   refine tk 7 hHeld ?_
   refine tk 8 hHeld ?_
   refine tk 9 hHeld ?_
   refine tk 10 hHeld ?_
   refine _root_.Go.Proofs.Ytlciijlgiknljaa.dn ?_
   clear hHeld
   go_wp2_with fail
   --%A
   go_loopw [6] (fun v6 wr => ∃ (k:Nat),k≤rl∧v6 = .int .i64 (k:Int)∧Hid (Kept w wr)) (fun v6 _ => rl - (intOf v6).toNat)
   case atStart => exact ⟨0,Nat.zero_le _,rfl,HK.out⟩
   case round =>
    clear HK
    obtain ⟨k,hkl,rfl,H⟩:=hrel
    have e1:=HC.out.1 _ H.out
    by_cases hkt:k < rl
    ·
     have hkk:(k:Int) < (rl:Int):=by omega
     have hk0:(0:Int)≤(k:Int):=by omega
     have hkL:k < row.length:=by have:=HC.out.2.2.2.2; omega
     obtain ⟨p1,q1,rfl,hd1⟩:=HC.out.2.2.1.at hkL
     obtain ⟨p2,q2,rfl,hd2⟩:=HC.out.2.2.2.1.at hkL
     generalize row.getD k 0 = x at hd1 hd2
     have HX:=hid (And.intro hd1 hd2)
     clear hd1 hd2
     go_upto_region 11 with fail
     clear e1
     have kd:=H.out.trans (Kept.refl wr).drew
     refine wp_region_held_drew (S:=fun w' => w'.cell? ⟨b1,o1 + i,none⟩ = some (.slice (some ⟨p1,q1,none⟩) rl rc)∧w'.cell? ⟨b2,o2 + i,none⟩ = some (.slice (some ⟨p2,q2,none⟩) rl kc)∧w'.cell? ⟨p1,q1 + k,none⟩ = some (.int .i64 x)∧w'.cell? ⟨p2,q2 + k,none⟩ = some (.int .i64 x)) (by kernel_rfl) ⟨HC.out.1 _ kd,HC.out.2.1 _ kd,HX.out.1 _ kd,HX.out.2 _ kd⟩ (fun hHeld => ?_)
     have HK:=hid kd
     generalize wr.drew = w2 at HK hHeld ⊢
     clear kd H
     refine tk 0 hHeld ?_
     refine tk 1 hHeld ?_
     refine tk 2 hHeld ?_
     refine tk 3 hHeld ?_
     refine tk 4 hHeld ?_
     refine tk 5 hHeld ?_
     refine tk 6 hHeld ?_
     refine tk 7 hHeld ?_
     refine tk 8 hHeld ?_
     refine tk 9 hHeld ?_
     refine tk 10 hHeld ?_
     refine tk 11 hHeld ?_
     refine tk 12 hHeld ?_
     refine tk 13 hHeld ?_
     refine tk 14 hHeld ?_
     refine _root_.Go.Proofs.Ytlciijlgiknljaa.dn ?_
     clear hHeld
     go_wp2_with fail
     go_roundw
     case rel => exact ⟨k + 1,by omega,by go_num,HK.out⟩
     case measure => show rl - ((k:Int) + 1).toNat < rl - (k:Int).toNat; omega
    ·
     have hkk:¬ (k:Int) < (rl:Int):=by omega
     go_wp2_with fail
     go_roundw
     case rel => exact ⟨i + 1,by omega,by go_num,H.out⟩
     case measure => show n - ((i:Int) + 1).toNat < n - (i:Int).toNat; omega
  ·
   have hii:¬ (i:Int) < (n:Int):=by omega
   go_wp2_with fail
   go_ret
   exact ⟨H.out,rfl⟩
theorem wpList_src {P:Program} {w:World} {ops:Array Oper} {rest:List Oper} {o:Oper} {a:Act} {Q:Exit→Act→World→Prop} (hgd:o.guard = none) (s x:Operand) (t:TypeId)
  (ho:o.op = .call { callee:=.builtin .append,args:=#[s,x],argTypes:=#[t,t] })
  (base:Nat) (e:TypeId) (i:TypeInfo) (zv:Value) (size bytes:Nat) (ht:P.underlying t = some (.slice e)) (hi:P.info? e = some i) (hz:i.zero = some zv)
  (hsize:i.size = size) (hby:i.bytes = bytes) (hzs:zv.cells.size = size) (hsz:0 < size)
  (g0:Nat) (hs:a.eval s = .slice (some ⟨g0,0,none⟩) 0 0) (hown:w.ownsRow base e size (.slice (some ⟨g0,0,none⟩) 0 0) 0 [])
  (ao:Option Addr) (m c:Nat) (news:List Value) (hx:a.eval x = .slice ao m c) (hl:news.length = m * size) (hnews:0 < m→∃ ad,ao = some ad∧∀ j u,news[j]? = some u→w.cell? (ad.add j) = some u) (h1:∀ u ∈ news,u.oneCell' = true)
  (h63:m≤maxLen) (hbytes:m * bytes≤140737488355328) (hbase:base≤w.heap.size)
  (h:∀ g cap w',w'.ownsRow base e size (.slice (some ⟨g,0,none⟩) m cap) m news→w.grownBy w' (some g0)→wpList P ops Q rest (a.put o.dst (.slice (some ⟨g,0,none⟩) m cap)) w'):wpList P ops Q (o :: rest) a w:=by
 by_cases hm:0 < m
 ·
  obtain ⟨ad,rfl,hn⟩:=hnews hm
  exact wpList_append_lies w hgd s x t ho base e i zv size bytes ht hi hz hsize hby hzs hsz _ 0 [] hs hown ad m c news hx hl hn h1 hm (by omega) (by rw [Nat.zero_add]; exact hbytes) hbase _ rfl (fun g cap w' h2 h3 _ _ => by
   have:=h g cap w' (by simpa using h2) h3
   rw [Nat.zero_add]
   exact this)
 ·
  obtain rfl:m = 0:=by omega
  have hn0:news = []:=List.eq_nil_of_length_eq_zero (by simpa using hl)
  subst hn0
  have hr:(Builtin.append_ #[t,t] o.type #[.slice (some ⟨g0,0,none⟩) 0 0,.slice ao 0 c]).run P w = .ok (.slice (some ⟨g0,0,none⟩) 0 0) w:=by
   cases ao <;> simp [Builtin.append_,run_underlying ht,sizeOf,typeInfo,hi,Builtin.lenOf,Builtin.firstCells,loadCells,loadCellsFrom,storeCells]
  refine wpList_plain hgd fun K hK => ?_
  unfold Oper.wp execOp
  simp only [ho,resolve,invoke,builtin,Sem.run_bind,Sem.run_pure,Result.andThen_ok,List.map_toArray,List.map_cons,List.map_nil,hs,hx,hr]
  exact hK _ _ (h g0 0 w hown ⟨rfl,rfl,rfl,Nat.le_refl _,fun _ _ _ => rfl⟩)
theorem own_none (t:TypeId) (sz:Nat) (w:World) (B:Nat) (hB:B≤w.heap.size):(w.alloc (Obj.cells #[] t)).ownsRow B t sz (.slice (some ⟨w.heap.size,0,none⟩) 0 0) 0 []:=by
 refine ⟨by simp,.inr ⟨w.heap.size,0,#[],rfl,hB,?_,Nat.le_refl _,by unfold maxLen; omega,by simp,by simp⟩⟩
 show (w.heap.push _)[w.heap.size]? = _
 simp
theorem addr_add (b off j:Nat):(⟨b,off,none⟩:Addr).add j = ⟨b,off + j,none⟩:=by
 unfold Addr.add
 by_cases hj0:j = 0 <;> simp [hj0]
theorem isl_src {w:World} {ao:Option Addr} {n c:Nat} {l:List Int} (h:ISl w (.slice ao n c) l):0 < n→∃ ad,ao = some ad∧∀ j u,(l.map (Value.int .i64))[j]? = some u→w.cell? (ad.add j) = some u:=by
 intro h0
 obtain ⟨ao',c',hv,hx⟩:=h
 simp only [Value.slice.injEq] at hv
 obtain ⟨rfl,rfl,rfl⟩:=hv
 obtain ⟨b,off,rfl,hb,hc⟩:=hx h0
 refine ⟨⟨b,off,none⟩,rfl,fun j u hj => ?_⟩
 have hl:j < l.length:=by
  have:=(List.getElem?_eq_some_iff.1 hj).1
  simpa using this
 rw [addr_add,hc j hl,← hj,List.getElem?_map,List.getD_eq_getElem?_getD,List.getElem?_eq_getElem hl]
 rfl
end Sp
end Go.Proofs.Ytlciijlgiknljaa

namespace Go.Proofs.Ytlciijlgiknljaa
open Go.RowKit
open V (RowL RowL.alloc RowL.lt RowL.cell RowL.fz RowL.kept RowL.block RowL.set RowL.far)
namespace Sp
theorem take_succ_getD (P:List (List Int)) (i:Nat) (h:i < P.length):P.take (i + 1) = P.take i ++ [P.getD i []]:=by
 rw [List.take_succ_eq_append_getElem h,List.getD_eq_getElem?_getD,List.getElem?_eq_getElem h]
 rfl
set_option maxRecDepth 100000 in
set_option maxHeartbeats 8000000 in
theorem copy13_any (ao:Option Addr) (n c:Nat) (P:List (List Int)) (w:World) (h:PatR w (.slice ao n c) P) (hn:n≤1000000) (hr:∀ l ∈ P,l.length≤1000000) :
  Calls Try.prog 11 #[.slice ao n c] w fun e w' => Kept w w'∧∃ v,e = .returned v∧PatU w.heap.size w' v P:=by
 have hl:=h.len
 obtain ⟨i0,hi,hz0,hz1,hz2⟩:=info_parts info_ints
 obtain ⟨i1,hj,hy0,hy1,hy2⟩:=info_parts info_i64
 have HL:=hid (And.intro h (And.intro hl hr))
 clear h hl hr
 go_enter Try.func11,Try.ntmps11
 go_wp2_with fail
 go_loopw [3,4] (fun v3 v4 wr => ∃ (i:Nat) (bv:Value),i≤n∧v3 = bv∧v4 = .int .i64 (i:Int)∧Hid (Kept w wr∧PatU w.heap.size wr bv (P.take i))) (fun _ v4 _ => n - (intOf v4).toNat)
 case atStart => exact ⟨0,_,Nat.zero_le _,rfl,rfl,Kept.refl _,PatU.nil _ _⟩
 case round =>
  obtain ⟨i,bv,hil,rfl,rfl,H⟩:=hrel
  generalize wr = w1 at H ⊢
  by_cases hit:i < n
  ·
   have hii:(i:Int) < (n:Int):=by omega
   have hi0:(0:Int)≤(i:Int):=by omega
   have hiL:i < P.length:=by have:=HL.out.2.1; omega
   obtain ⟨b,off,rfl,ra,rc,hc,hI⟩:=HL.out.1.row hiL
   have hlen:(P.getD i []).length≤1000000:=HL.out.2.2 _ (by rw [List.getD_eq_getElem?_getD,List.getElem?_eq_getElem hiL]; exact List.getElem_mem hiL)
   have HS:=hid (take_succ_getD P i hiL)
   have HPL:=hid (show (P.take i).length = i by rw [List.length_take]; omega)
   generalize P.getD i [] = row at hc hI hlen HS
   generalize P.take i = Q at H HS HPL
   have hQ:Q.length≤1000000:=by have:=HPL.out; omega
   obtain ⟨rl,hrl⟩:∃ r,r = row.length:=⟨_,rfl⟩
   rw [← hrl] at hc hI hlen
   have HC:=hid (And.intro hc (And.intro hI hrl))
   clear hc hI hrl
   have kE:=(Kept.refl w1).alloc (Obj.cells #[] 3)
   have c1:=HC.out.1 _ (H.out.1.trans kE)
   have hsz:=H.out.1.size
   have hOE:=own_none 3 1 w1 w1.heap.size (Nat.le_refl _)
   have HE:=hid (And.intro kE hOE)
   clear kE hOE
   --%A
   go_wp2_with (at_builtin; refine wpList_src rfl (.tmp 12) (.tmp 16) 41 rfl w1.heap.size 3 i1 (.int .i64 0) 1 8 und_ints hj hy0 hy1 hy2 rfl (by decide) w1.heap.size rfl HE.out.2 ra rl rc (row.map (Value.int .i64)) rfl (by rw [List.length_map,Nat.mul_one]; exact HC.out.2.2.symm) (isl_src ((HC.out.2.1.kept H.out.1).kept HE.out.1)) (fun u hu => by obtain ⟨z,_,rfl⟩:=List.mem_map.1 hu; rfl) (by unfold maxLen; omega) (by omega) (by simp) ?_)
   --%B
   intro g cap w3 hO hgr
   have K3:Kept w1 w3:=Below.grown HE.out.1 hgr HE.out.1.size (fun k hk => by simp at hk; omega)
   obtain ⟨hs,hgl,hown,hrows⟩:=H.out.2.kept K3
   have HW:=hid (And.intro hgl (And.intro hown hrows))
   have HR:=hid (And.intro K3 (show OwnI w1.heap.size w3 (.slice (some ⟨g,0,none⟩) rl cap) row by unfold OwnI; rw [← HC.out.2.2]; exact hO))
   have hsz3:w.heap.size≤w3.heap.size:=(H.out.1.trans K3).size
   clear hgl hown hrows hO hgr K3 HE c1
   go_wp2_with (at_builtin; refine wpList_append_lies _ rfl (.tmp 11) (.tmp 18) 22 rfl w.heap.size 41 i0 (.slice none 0 0) 1 24 und_intss hi hz0 hz1 hz2 rfl (by decide) u3 Q.length hs rfl (by exact World.ownsRow.alloc HW.out.2.1 _) ⟨w3.heap.size,0,none⟩ 1 1 [.slice (some ⟨g,0,none⟩) rl cap] rfl rfl (cell_new w3 _ _) (fun u hu => by simp at hu; subst hu; rfl) (by omega) (by unfold maxLen; omega) (by omega) (by simp; omega) _ rfl ?_)
   --%C
   intro G cap2 w5 hO hgr _ _
   have kA:=(Kept.refl w3).alloc (.cells #[.slice (some ⟨g,0,none⟩) rl cap] 41)
   have hOw:=World.ownsRow.alloc HW.out.2.1 (.cells #[.slice (some ⟨g,0,none⟩) rl cap] 41)
   generalize w3.alloc (.cells #[.slice (some ⟨g,0,none⟩) rl cap] 41) = W5 at kA hgr hOw
   have KW:Kept w w5:=Below.grown ((H.out.1.trans HR.out.1).trans kA) hgr ((H.out.1.trans HR.out.1).trans kA).size (fun k hk => (World.ownsRow.lt hOw k hk).1)
   have HB:=hid (fun (v:Value) (l:List Int) (hp:OwnI w.heap.size w3 v l) => (show OwnI w.heap.size w5 v l from own_kept (own_keptK hp kA) (fun b hb => hgr.block b (World.ownsRow.lt (own_keptK hp kA) b hb).2 (fun e => own_apart (own_keptK hp kA) hOw (by decide) b hb e.symm))))
   have HQ:=hid (And.intro KW (PatU.snoc (w:=w3) (w':=w5) HW.out.1 hO HW.out.2.2 HB.out (own_mono HR.out.2 H.out.1.size)))
   clear kA hOw hgr hO KW
   go_wp2_with fail
   go_roundw
   case rel => exact ⟨i + 1,_,by omega,rfl,by go_num,HQ.out.1,by rw [HS.out]; exact HQ.out.2⟩
   case measure => show n - ((i:Int) + 1).toNat < n - (i:Int).toNat; omega
  ·
   have hii:¬ (i:Int) < (n:Int):=by omega
   have HE:=hid (show P.take i = P from List.take_of_length_le (by have:=HL.out.2.1; omega))
   go_wp2_with fail
   go_ret
   exact ⟨H.out.1,_,rfl,by have:=H.out.2; rw [HE.out] at this; exact this⟩
end Sp
end Go.Proofs.Ytlciijlgiknljaa

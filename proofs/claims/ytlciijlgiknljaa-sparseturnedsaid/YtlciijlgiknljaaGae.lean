/- shuntref13.Order. shuntref13.Fill. shuntref13.Same of equal lists; Copy. -/
import Derived.Test.YtlciijlgiknljaaGad
import Derived.Test.YtlciijlgiknljaaGab
namespace Go.Proofs.Ytlciijlgiknljaa
open Go.RowKit
open V (RowL RowL.alloc RowL.lt RowL.cell RowL.fz RowL.kept RowL.block RowL.set RowL.far)
namespace Sp
theorem MatU.mono {B B':Nat} {w:World} {v:Value} {n i:Nat} {m:Nat→Nat→Bool} (h:MatU B w v n i m) (hB:B'≤B):MatU B' w v n i m:=by
 obtain ⟨gs,h1,h2,h3⟩:=h
 exact ⟨gs,h1,own_mono h2 hB,fun j hj => ⟨Nat.le_trans hB (h3 j hj).1,(h3 j hj).2⟩⟩
theorem MatU.grown {B B':Nat} {w w':World} {v rv:Value} {n i len:Nat} {m:Nat→Nat→Bool} {xs:List Value} (h:MatU B w v n i m) (ho:w.ownsRow B' 3 1 rv len xs) (hg:w.grownBy w' rv.ownBlock):MatU B w' v n i m:=by
 obtain ⟨gs,h1,h2,h3⟩:=h
 refine ⟨gs,h1,own_kept h2 (fun b hb => hg.block b (World.ownsRow.lt h2 b hb).2 (fun e => own_apart h2 ho (by decide) b hb e.symm)),fun j hj => ⟨(h3 j hj).1,(h3 j hj).2.block (hg.block _ (h3 j hj).2.lt (fun e => own_row ho (h3 j hj).2 (by decide) e.symm))⟩⟩
theorem OwnI.grown {B:Nat} {w w':World} {v rv:Value} {l:List Int} (h:OwnI B w v l) (ha:∀ b,v.ownBlock = some b→rv.ownBlock ≠ some b) (hg:w.grownBy w' rv.ownBlock):OwnI B w' v l :=
 own_kept h (fun b hb => hg.block b (World.ownsRow.lt h b hb).2 (fun e => ha b hb e.symm))
def lenOf (v:Value):Nat:=match v with
 | .slice _ n _ => n
 | _ => 0
theorem lenOf_own {w:World} {B:Nat} {e:TypeId} {sz n:Nat} {v:Value} {xs:List Value} (h:w.ownsRow B e sz v n xs):lenOf v = n:=by
 obtain ⟨_,_,rfl⟩:=own_shape h
 rfl
def orderS (P:List (List Int)):List (Nat × Nat):=if okP P = true then orderL P.length P.length (mP P) else []
def fstI (l:List (Nat × Nat)):List Int:=l.map fun q => (q.1:Int)
def sndI (l:List (Nat × Nat)):List Int:=l.map fun q => (q.2:Int)
theorem orderL_none {n j:Nat} {m:Nat→Nat→Bool} (h:bestOf n m = none):orderL n j m = []:=by
 cases j with
 | zero => rfl
 | succ j => unfold orderL; rw [h]
theorem orderL_some {n j:Nat} {m:Nat→Nat→Bool} {q:Nat × Nat} (h:bestOf n m = some q) (hj:(live n m).length≤j):∃ j',orderL n j m = q :: orderL n j' (elim m q.1 q.2)∧(live n (elim m q.1 q.2)).length≤j'∧(live n (elim m q.1 q.2)).length < (live n m).length:=by
 have hq:=best_some.1 (show bestOf n m = some (q.1,q.2) from h)
 have hf:=live_falls hq.row hq.col hq.isin
 cases j with
 | zero => omega
 | succ j =>
  refine ⟨j,?_,by omega,hf⟩
  rw [orderL,h]
structure OrdI (B n:Nat) (m0:Nat→Nat→Bool) (w:World) (rv cv mv:Value) (dn:List (Nat × Nat)) (cur:Nat→Nat→Bool) (j:Nat):Prop where
 rows:OwnI B w rv (fstI dn)
 cols:OwnI B w cv (sndI dn)
 apart:∀ b,rv.ownBlock = some b→cv.ownBlock ≠ some b
 mat:MatU B w mv n n cur
 all:orderL n n m0 = dn ++ orderL n j cur
 enough:(live n cur).length≤j
 short:dn.length + (live n cur).length≤n
end Sp
end Go.Proofs.Ytlciijlgiknljaa

namespace Go.Proofs.Ytlciijlgiknljaa
open Go.RowKit
open V (RowL RowL.alloc RowL.lt RowL.cell RowL.fz RowL.kept RowL.block RowL.set RowL.far)
namespace Sp
def fillGo (n:Nat):(Nat→Nat→Bool)→List (Int × Int)→Nat→Int × Int
 | _,[],all => ((all:Int),0)
 | m,q :: t,all => if hasM n m q.1 q.2 = true then fillGo n (elim m q.1.toNat q.2.toNat) t (all + fillC n m q.1.toNat q.2.toNat) else (0,1)
def fillS (P:List (List Int)) (rows cols:List Int):Int × Int:=if okP P = true then (if rows.length = cols.length then fillGo P.length (mP P) (rows.zip cols) 0 else (0,5)) else (0,130)
theorem zip_at {rows cols:List Int} {i:Nat} (h:i < rows.length) (he:rows.length = cols.length):(rows.zip cols).drop i = (rows.getD i 0,cols.getD i 0) :: (rows.zip cols).drop (i + 1):=by
 rw [List.drop_eq_getElem_cons (by rw [List.length_zip]; omega),List.getElem_zip,List.getD_eq_getElem?_getD,List.getD_eq_getElem?_getD,List.getElem?_eq_getElem h,List.getElem?_eq_getElem (by omega)]
 rfl
theorem fillC_le (n:Nat) (m:Nat→Nat→Bool) (r c:Nat) (hn:n≤48):fillC n m r c≤2304:=by
 have key:∀ i,fillU n m r c i≤i * 48:=by
  intro i
  induction i with
  | zero => exact Nat.le_refl _
  | succ i ih =>
   rw [fillU_step]
   have:=cnt_le (qF m r c i) n
   omega
 have:=key n
 rw [fillU_all] at this
 omega
end Sp
end Go.Proofs.Ytlciijlgiknljaa

namespace Go.Proofs.Ytlciijlgiknljaa
open Go.RowKit
open V (RowL RowL.alloc RowL.lt RowL.cell RowL.fz RowL.kept RowL.block RowL.set RowL.far)
namespace Sp
set_option maxRecDepth 100000 in
set_option maxHeartbeats 8000000 in
theorem same_any (a1:Option Addr) (n c1:Nat) (a2:Option Addr) (c2:Nat) (P:List (List Int)) (w:World) (h1:PatR w (.slice a1 n c1) P) (h2:PatR w (.slice a2 n c2) P) (hn:n≤1000000) (hr:∀ l ∈ P,l.length≤1000000) :
  Calls Try.prog 20 #[.slice a1 n c1,.slice a2 n c2] w fun e w' => Kept w w'∧e = .returned (.bool true):=by
 have hl:=h1.len
 have HL:=hid (And.intro h1 (And.intro h2 (And.intro hl hr)))
 clear h1 h2 hl hr
 go_enter Try.func20,Try.ntmps20
 go_wp2_with fail
 go_loopw [5] (fun v5 wr => ∃ (i:Nat),i≤n∧v5 = .int .i64 (i:Int)∧Hid (Kept w wr)) (fun v5 _ => n - (intOf v5).toNat)
 case atStart => exact ⟨0,Nat.zero_le _,rfl,Kept.refl _⟩
 case round =>
  obtain ⟨i,hil,rfl,H⟩:=hrel
  generalize wr = w1 at H ⊢
  by_cases hit:i < n
  ·
   have hii:(i:Int) < (n:Int):=by omega
   have hi0:(0:Int)≤(i:Int):=by omega
   have hiL:i < P.length:=by have:=HL.out.2.2.1; omega
   obtain ⟨b1,o1,rfl,ra,rc,hc1,hI1⟩:=HL.out.1.row hiL
   obtain ⟨b2,o2,rfl,ka,kc,hc2,hI2⟩:=HL.out.2.1.row hiL
   have hlen:(P.getD i []).length≤1000000:=HL.out.2.2.2 _ (by rw [List.getD_eq_getElem?_getD,List.getElem?_eq_getElem hiL]; exact List.getElem_mem hiL)
   generalize P.getD i [] = row at hc1 hc2 hI1 hI2 hlen
   obtain ⟨rl,hrl⟩:∃ r,r = row.length:=⟨_,rfl⟩
   rw [← hrl] at hc1 hc2 hI1 hI2 hlen
   have HC:=hid (And.intro hc1 (And.intro hc2 (And.intro hI1 (And.intro hI2 hrl))))
   clear hc1 hc2 hI1 hI2 hrl
   go_upto_region 6 with fail
   have kd:=H.out.trans (Kept.refl w1).drew
   refine wp_region_held_drew (S:=fun w' => w'.cell? ⟨b1,o1 + i,none⟩ = some (.slice ra rl rc)∧w'.cell? ⟨b2,o2 + i,none⟩ = some (.slice ka rl kc)) (by kernel_rfl) ⟨HC.out.1 _ kd,HC.out.2.1 _ kd⟩ (fun hHeld => ?_)
   have HK:=hid kd
   generalize w1.drew = w2 at HK hHeld ⊢
   clear kd H
   refine tk 0 hHeld ?_
   refine tk 1 hHeld ?_
   refine tk 2 hHeld ?_
   refine tk 3 hHeld ?_
   refine tk 4 hHeld ?_
   refine tk 5 hHeld ?_
   refine tk 6 hHeld ?_
   refine tk 7 hHeld ?_
   refine tk 8 hHeld ?_
   refine tk 9 hHeld ?_
   refine tk 10 hHeld ?_
   refine _root_.Go.Proofs.Ytlciijlgiknljaa.dn ?_
   clear hHeld
   go_wp2_with fail
   --%A
   go_loopw [6] (fun v6 wr => ∃ (k:Nat),k≤rl∧v6 = .int .i64 (k:Int)∧Hid (Kept w wr)) (fun v6 _ => rl - (intOf v6).toNat)
   case atStart => exact ⟨0,Nat.zero_le _,rfl,HK.out⟩
   case round =>
    clear HK
    obtain ⟨k,hkl,rfl,H⟩:=hrel
    have e1:=HC.out.1 _ H.out
    by_cases hkt:k < rl
    ·
     have hkk:(k:Int) < (rl:Int):=by omega
     have hk0:(0:Int)≤(k:Int):=by omega
     have hkL:k < row.length:=by have:=HC.out.2.2.2.2; omega
     obtain ⟨p1,q1,rfl,hd1⟩:=HC.out.2.2.1.at hkL
     obtain ⟨p2,q2,rfl,hd2⟩:=HC.out.2.2.2.1.at hkL
     generalize row.getD k 0 = x at hd1 hd2
     have HX:=hid (And.intro hd1 hd2)
     clear hd1 hd2
     go_upto_region 11 with fail
     clear e1
     have kd:=H.out.trans (Kept.refl wr).drew
     refine wp_region_held_drew (S:=fun w' => w'.cell? ⟨b1,o1 + i,none⟩ = some (.slice (some ⟨p1,q1,none⟩) rl rc)∧w'.cell? ⟨b2,o2 + i,none⟩ = some (.slice (some ⟨p2,q2,none⟩) rl kc)∧w'.cell? ⟨p1,q1 + k,none⟩ = some (.int .i64 x)∧w'.cell? ⟨p2,q2 + k,none⟩ = some (.int .i64 x)) (by kernel_rfl) ⟨HC.out.1 _ kd,HC.out.2.1 _ kd,HX.out.1 _ kd,HX.out.2 _ kd⟩ (fun hHeld => ?_)
     have HK:=hid kd
     generalize wr.drew = w2 at HK hHeld ⊢
     clear kd H
     refine tk 0 hHeld ?_
     refine tk 1 hHeld ?_
     refine tk 2 hHeld ?_
     refine tk 3 hHeld ?_
     refine tk 4 hHeld ?_
     refine tk 5 hHeld ?_
     refine tk 6 hHeld ?_
     refine tk 7 hHeld ?_
     refine tk 8 hHeld ?_
     refine tk 9 hHeld ?_
     refine tk 10 hHeld ?_
     refine tk 11 hHeld ?_
     refine tk 12 hHeld ?_
     refine tk 13 hHeld ?_
     refine tk 14 hHeld ?_
     refine _root_.Go.Proofs.Ytlciijlgiknljaa.dn ?_
     clear hHeld
     go_wp2_with fail
     go_roundw
     case rel => exact ⟨k + 1,by omega,by go_num,HK.out⟩
     case measure => show rl - ((k:Int) + 1).toNat < rl - (k:Int).toNat; omega
    ·
     have hkk:¬ (k:Int) < (rl:Int):=by omega
     go_wp2_with fail
     go_roundw
     case rel => exact ⟨i + 1,by omega,by go_num,H.out⟩
     case measure => show n - ((i:Int) + 1).toNat < n - (i:Int).toNat; omega
  ·
   have hii:¬ (i:Int) < (n:Int):=by omega
   go_wp2_with fail
   go_ret
   exact ⟨H.out,rfl⟩
end Sp
end Go.Proofs.Ytlciijlgiknljaa

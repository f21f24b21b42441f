/- bareiss's table.take. (mk_mz8.py) bareiss's stage.behind. (mk_mz6.py) bareiss's table.reduce. (mk_mz9.py) -/
import Derived.Test.YtdcgdpbgnijnpaaGreatGaq
import Derived.Test.YtdcgdpbgnijnpaaGreatGao
import Derived.Carry
namespace Go.Proofs.YtdcgdpbgnijnpaaGreat
open Go.RowKit
open V (RowL RowL.alloc RowL.lt RowL.cell RowL.fz RowL.kept RowL.block RowL.set RowL.far)
namespace Bp
open Sp (hid)
open Bm (ZI ZI.kept)
open Sy (alloc_sz)
def StV (B:Nat) (w:World) (v:Value) (n r c ba bd:Nat) (p q:Int) (g d:Nat→Int):Prop :=
 ∃ (s1:Bool) (o1:Option Addr) (k1 c1:Nat) (s2:Bool) (o2:Option Addr) (k2 c2:Nat),v = .agg #[.int .i64 (r:Int),.int .i64 (c:Int),.bool s1,.slice o1 k1 c1,.bool s2,.slice o2 k2 c2,.map (some ba),.map (some bd)] ∧
  ZN B w s1 (.slice o1 k1 c1) p∧ZN B w s2 (.slice o2 k2 c2) q∧NumM B w ba n g∧NumM B w bd n d
def TakeIs (B:Nat) (w:World) (ao:Option Addr) (bt n r c b:Nat) (ms:Nat→Option Nat) (F:Nat→Nat→Int) (q:Int) (e:Ending) (w':World):Prop :=
 KX (tabT bt n ms) w w'∧∃ v bd,e = .returned v∧w.heap.size≤bd∧StV B w' v n r c b bd (F r c) q (fun j => if j = c then 0 else F r j) (fun i => if i < n∧i ≠ r then F i c else 0) ∧
  TabR B w' ao bt n (fun i => if i = r then none else ms i) (fun i j => if i = r then 0 else if j = c then 0 else F i j)
theorem RowL_kx {T:Nat→Prop} {t:TypeId} {w w':World} {p:Nat} {xs:List Value} (h:RowL t w p xs) (k:KX T w w') (hT:Free t T w):RowL t w' p xs:=rowIs_kx h k hT
structure TkS (B n bt b bd g9 q2:Nat) (ms:Nat→Option Nat) (sv zv:List Value) (s1 sa:Bool) (v1 va:Value) (p q:Int) (g:Nat→Int) (wr:World) (G:Nat→Nat→Int) (d:Nat→Int):Prop where
 tab:TabR B wr (some ⟨bt,0,none⟩) bt n ms G
 own:NumM B wr b n g
 down:NumM B wr bd n d
 box:RowL 87 wr g9 sv
 res:RowL 87 wr q2 zv
 z1:ZN B wr s1 v1 p
 zq:ZN B wr sa va q
section
variable {B n bt b bd g9 q2:Nat} {ms:Nat→Option Nat} {sv zv:List Value} {s1 sa:Bool} {v1 va:Value} {p q:Int} {g d d':Nat→Int} {wr w':World} {G G':Nat→Nat→Int}
theorem TkS.kept (h:TkS B n bt b bd g9 q2 ms sv zv s1 sa v1 va p q g wr G d) (k:Kept wr w'):TkS B n bt b bd g9 q2 ms sv zv s1 sa v1 va p q g w' G d :=
 ⟨h.tab.kept k,h.own.kept k,h.down.kept k,h.box.kept k,h.res.kept k,h.z1.kept k,h.zq.kept k⟩
theorem TkS.put (h:TkS B n bt b bd g9 q2 ms sv zv s1 sa v1 va p q g wr G d) (k:KX (fun i => i = bd) wr w') (hd:NumM B w' bd n d') (h1:bd ≠ b) (h2:∀ i,i < n→ms i ≠ some bd):TkS B n bt b bd g9 q2 ms sv zv s1 sa v1 va p q g w' G d':=by
 have hf:=h.down.free
 exact ⟨h.tab.kx k (hf _) (fun h0 e => h.tab.far h0 h.down e.symm) (fun i x hi e e2 => h2 i hi (by rw [e,e2])),h.own.kx k (hf _) (fun e => h1 e.symm),hd,RowL_kx h.box k (hf _),RowL_kx h.res k (hf _),h.z1.kx k (hf _),h.zq.kx k (hf _)⟩
theorem TkS.drop (h:TkS B n bt b bd g9 q2 ms sv zv s1 sa v1 va p q g wr G d) {i x c:Nat} (hi:i < n) (e:ms i = some x) (k:KX (fun j => j = x) wr w') (hM:NumM B w' x n (upd (G i) c 0)) (h1:∀ i,i < n→ms i ≠ some bd) (h2:∀ i,i < n→ms i ≠ some b):TkS B n bt b bd g9 q2 ms sv zv s1 sa v1 va p q g w' (fun k j => if k = i then upd (G i) c 0 j else G k j) d:=by
 have hf:=(h.tab.map hi e).free
 exact ⟨h.tab.drop hi e hM k,h.own.kx k (hf _) (fun e' => h2 i hi (by rw [e,e'])),h.down.kx k (hf _) (fun e' => h1 i hi (by rw [e,e'])),RowL_kx h.box k (hf _),RowL_kx h.res k (hf _),h.z1.kx k (hf _),h.zq.kx k (hf _)⟩
theorem TkS.congr (h:TkS B n bt b bd g9 q2 ms sv zv s1 sa v1 va p q g wr G d) (e1:∀ i j,i < n→G i j = G' i j) (e2:∀ k,d k = d' k):TkS B n bt b bd g9 q2 ms sv zv s1 sa v1 va p q g wr G' d' :=
 ⟨h.tab.congr e1,h.own,h.down.congr e2,h.box,h.res,h.z1,h.zq⟩
end
set_option maxRecDepth 100000 in
set_option maxHeartbeats 40000000 in
theorem take_any (B n bt r c b:Nat) (ms:Nat→Option Nat) (F:Nat→Nat→Int) (ao:Option Addr) (cap:Nat) (sa:Bool) (oa:Option Addr) (ka ca:Nat) (q:Int) (w:World) (h:TabR B w ao bt n ms F) (hr:r < n) (hc:c < n) (hb:ms r = some b) (hp:F r c ≠ 0) (hq:ZN B w sa (.slice oa ka ca) q) (hB:B≤w.heap.size) (hn:n≤1000) :
  Calls Tryz.prog 50 #[.slice ao n cap,.int .i64 (r:Int),.int .i64 (c:Int),.agg #[.bool sa,.slice oa ka ca]] w (TakeIs B w ao bt n r c b ms F q):=by
 obtain ⟨Q,hQ⟩:∃ Q,Q = TakeIs B w ao bt n r c b ms F q:=⟨_,rfl⟩
 rw [← hQ]
 have HQ:=hid hQ
 clear hQ
 have hao:=(h.cell hr).1
 subst hao
 have HH:=hid (fun (W:World) (K:Kept w W) => And.intro (h.kept K) (hq.kept K))
 have HN:=hid (And.intro hB (And.intro hp hb))
 have hm:=h.map hr hb
 obtain ⟨v1,hv1,hlk⟩:=hm.look2 c
 obtain ⟨s1,o1,k1,c1,rfl,hz1,_⟩:=hv1.zn
 have HL:=hid (fun (V:World) (K:Kept w V) => hlk V (K.block b hm.lt))
 have HZ:=hid hz1
 have HB0:=hid (show bt < w.heap.size∧b < w.heap.size from ⟨(h.cell hr).2.2.2.1,hm.lt⟩)
 clear h hq hB hp hm hv1 hlk hz1 hb
 have hrn:(r:Int) < (n:Int):=by omega
 have hr0:(0:Int)≤(r:Int):=by omega
 have br1:=RowL.alloc 37 w [.bool sa,.slice oa ka ca]
 have bk1:=(Kept.refl w).alloc (.cells #[.bool sa,.slice oa ka ca] 37)
 have bs1:=alloc_sz w (.cells #[.bool sa,.slice oa ka ca] 37)
 have br2:=RowL.alloc 87 (w.alloc (.cells #[.bool sa,.slice oa ka ca] 37)) [.int .i64 0,.int .i64 0,.bool false,.slice none 0 0,.bool false,.slice none 0 0,.map none,.map none]
 have bk2:=(Kept.refl (w.alloc (.cells #[.bool sa,.slice oa ka ca] 37))).alloc (.cells #[.int .i64 0,.int .i64 0,.bool false,.slice none 0 0,.bool false,.slice none 0 0,.map none,.map none] 87)
 have bs2:=alloc_sz (w.alloc (.cells #[.bool sa,.slice oa ka ca] 37)) (.cells #[.int .i64 0,.int .i64 0,.bool false,.slice none 0 0,.bool false,.slice none 0 0,.map none,.map none] 87)
 rw [bs1] at br2
 have sN:(((w.alloc (.cells #[.bool sa,.slice oa ka ca] 37)).alloc (.cells #[.int .i64 0,.int .i64 0,.bool false,.slice none 0 0,.bool false,.slice none 0 0,.map none,.map none] 87))).heap.size = w.heap.size + 1 + 1:=by rw [bs2,bs1]
 have hs2z:(w.alloc (.cells #[.bool sa,.slice oa ka ca] 37)).heap.size + 1 = ((w.alloc (.cells #[.bool sa,.slice oa ka ca] 37)).alloc (.cells #[.int .i64 0,.int .i64 0,.bool false,.slice none 0 0,.bool false,.slice none 0 0,.map none,.map none] 87)).heap.size:=bs2.symm
 clear bs1 bs2
 have hmm:=@run_makeMap Tryz.prog
 go_enter Tryz.func50,Tryz.ntmps50
 go_upto_region 1 with fail
 generalize w.alloc (.cells #[.bool sa,.slice oa ka ca] 37) = W1 at bk1 bk2 br1 br2 sN hs2z ⊢
 generalize W1.alloc (.cells #[.int .i64 0,.int .i64 0,.bool false,.slice none 0 0,.bool false,.slice none 0 0,.map none,.map none] 87) = W2 at bk2 br2 sN hs2z ⊢
 obtain ⟨q2,hq2⟩:∃ p,p = w.heap.size + 1:=⟨_,rfl⟩
 obtain ⟨q1,hq1⟩:∃ p,p = w.heap.size:=⟨_,rfl⟩
 rw [← hq2] at br2 ⊢
 rw [← hq1] at br1 ⊢
 have HV:=hid (show ∀ V,Kept W2 V→(RowL 37 V q1 [.bool sa,.slice oa ka ca]∧RowL 87 V q2 [.int .i64 0,.int .i64 0,.bool false,.slice none 0 0,.bool false,.slice none 0 0,.map none,.map none])∧Kept w V from fun V K => ⟨⟨br1.kept (bk2.trans K),br2.kept K⟩,bk1.trans (bk2.trans K)⟩)
 have HVa:=hid (show ∀ V,Kept W1 V→(RowL 37 V q1 [.bool sa,.slice oa ka ca])∧Kept w V from fun V K => ⟨br1.kept K,bk1.trans K⟩)
 have HVb:=hid bk2
 have HVc:=hid hs2z
 have HVs:=hid (show (q1 = w.heap.size∧q2 = w.heap.size + 1)∧W2.heap.size = w.heap.size + 1 + 1 from ⟨⟨hq1,hq2⟩,sN⟩)
 clear bk1 br1 hq1 bk2 br2 hq2 sN hs2z
 have HBs:=hid (show B≤W2.heap.size from by have h1:=HVs.out.2; have h2:=HN.out.1; omega)
 have c0:=((HH.out _ (HV.out _ (Kept.refl W2)).2).1.cell hr).2.1
 rw [HN.out.2.2] at c0
 have c1':=(HV.out _ (Kept.refl W2)).1.1.cell 0 _
 have c2:=(HV.out _ (Kept.refl W2)).1.1.cell 1 _
 have c3:=HL.out _ (HV.out _ (Kept.refl W2)).2
 --%A
 go_cut [9] (fun v9 wc => ∃ (g9 bd:Nat),v9 = .pointer (some ⟨g9,0,none⟩)∧Hid (Kept W2 wc∧RowL 87 wc g9 [.int .i64 (r:Int),.int .i64 (c:Int),.bool s1,.slice o1 k1 c1,.bool sa,.slice oa ka ca,.map (some b),.map (some bd)]∧NumM B wc bd n (fun _ => 0)∧W2.heap.size≤g9∧W2.heap.size≤bd∧bd ≠ g9))
 case first =>
  have KT:Kept W2 W2.drew:=(Kept.refl _).drew
  have sS:=hid (fun (V:World) (K:Kept W2 V) => And.intro (show V.cell? ⟨bt,r,none⟩ = some (.map (some b)) by have:=((HH.out _ (HV.out _ K).2).1.cell hr).2.1; rw [HN.out.2.2] at this; exact this) (And.intro ((HV.out _ K).1.1.cell 0 _ rfl) (And.intro ((HV.out _ K).1.1.cell 1 _ rfl) (HL.out _ (HV.out _ K).2))))
  refine wp_region_held_drew (S:=fun w' => w'.cell? ⟨bt,r,none⟩ = some (.map (some b))∧w'.cell? ⟨q1,0,none⟩ = some (.bool sa)∧w'.cell? ⟨q1,1,none⟩ = some (.slice oa ka ca)∧(Instr.lookup 85 (.map (some b)) (.int .i64 (c:Int)) false).run Tryz.prog w' = .ok (.agg #[.bool s1,.slice o1 k1 c1]) w') (by kernel_rfl) (sS.out _ KT) (fun hHeld => ?_)
  generalize W2.drew = Wd at KT hHeld ⊢
  clear c0 c1' c2 c3
  refine wk 0 hHeld ?_
  refine wk 1 hHeld ?_
  refine wk 2 hHeld ?_
  refine wk 3 hHeld ?_
  refine wk 4 hHeld ?_
  refine wk 5 hHeld ?_
  refine wk 6 hHeld ?_
  refine wk 7 hHeld ?_
  refine wk 8 hHeld ?_
  refine wk 9 hHeld ?_
  refine wk 10 hHeld ?_
  refine wk 11 hHeld ?_
  refine wk 12 hHeld ?_
  refine wpAnyH_ready (rs:=[13,15]) (by kernel_rfl) (by simp) ?_
  refine AllReadyH.cons rfl (fun K hK => ?_) ?_
  ·
   go_simp
   refine hK.out _ _ (sS.out _ (KT.alloc _)) (fun hHeld => ?_)
   clear hK K
   have zm:=NumM.made B Wd n (by have h1:=KT.size; have h2:=HBs.out; omega)
   have hgm:W2.heap.size≤Wd.heap.size:=KT.size
   have KT:=KT.alloc (.map #[] 0)
   obtain ⟨bd,hbd⟩:∃ p,p = Wd.heap.size:=⟨_,rfl⟩
   rw [← hbd] at zm hgm ⊢
   generalize Wd.alloc (.map #[] 0) = Wa at zm KT hHeld ⊢
   clear hbd
   refine wk 14 hHeld ?_
   refine wpAnyH_ready (rs:=[15]) (by kernel_rfl) (by simp) ?_
   refine AllReadyH.cons rfl (fun K hK => ?_) AllReadyH.nil
   go_simp
   refine hK.out _ _ (sS.out _ (KT.alloc _)) (fun hHeld => ?_)
   clear hK K
   have z:=RowL.alloc 87 Wa [.int .i64 0,.int .i64 0,.bool false,.slice none 0 0,.bool false,.slice none 0 0,.map none,.map none]
   have hg:W2.heap.size≤Wa.heap.size:=KT.size
   have hne:(bd = Wa.heap.size) = False:=by have:=zm.lt; simp; omega
   have zm:=zm.kept ((Kept.refl Wa).alloc (.cells #[.int .i64 0,.int .i64 0,.bool false,.slice none 0 0,.bool false,.slice none 0 0,.map none,.map none] 87))
   have KT:=KT.alloc (.cells #[.int .i64 0,.int .i64 0,.bool false,.slice none 0 0,.bool false,.slice none 0 0,.map none,.map none] 87)
   obtain ⟨g9,hg9⟩:∃ p,p = Wa.heap.size:=⟨_,rfl⟩
   rw [← hg9] at z hg hne ⊢
   generalize Wa.alloc (.cells #[.int .i64 0,.int .i64 0,.bool false,.slice none 0 0,.bool false,.slice none 0 0,.map none,.map none] 87) = Wb at z KT hHeld zm ⊢
   clear hg9
   have c90:=z.cell 0 _
   have c91:=z.cell 1 _
   have c92:=z.cell 2 _
   have c93:=z.cell 3 _
   have c94:=z.cell 4 _
   have c95:=z.cell 5 _
   have c96:=z.cell 6 _
   have c97:=z.cell 7 _
   have g90:=z.fz 0
   have g91:=z.fz 1
   have g92:=z.fz 2
   have g93:=z.fz 3
   have g94:=z.fz 4
   have g95:=z.fz 5
   have g96:=z.fz 6
   have g97:=z.fz 7
   refine wpAnyH_ready (rs:=[16]) (by kernel_rfl) (by simp) ?_
   refine AllReadyH.cons rfl (fun K hK => ?_) AllReadyH.nil
   go_simp
   refine hK.out _ _ (sS.out _ ((((((((KT.setCell (p:=⟨g9,0,none⟩) hg (.int .i64 (r:Int))).setCell (p:=⟨g9,1,none⟩) hg (.int .i64 (c:Int))).setCell (p:=⟨g9,2,none⟩) hg (.bool s1)).setCell (p:=⟨g9,3,none⟩) hg (.slice o1 k1 c1)).setCell (p:=⟨g9,4,none⟩) hg (.bool sa)).setCell (p:=⟨g9,5,none⟩) hg (.slice oa ka ca)).setCell (p:=⟨g9,6,none⟩) hg (.map (some b))).setCell (p:=⟨g9,7,none⟩) hg (.map (some bd)))) (fun hHeld => ?_)
   clear hK K
   have hfr:Free 40 (fun i => i = g9) Wb:=by
    intro k hk cur fr e
    subst hk
    obtain ⟨c',h4,_⟩:=z
    rw [h4] at e
    injection e with e
    injection e with _ e2
    exact absurd e2 (by decide)
   have hx:KX (fun i => i = g9) Wb ((((((((Wb.setCell ⟨g9,0,none⟩ (.int .i64 (r:Int))).setCell ⟨g9,1,none⟩ (.int .i64 (c:Int))).setCell ⟨g9,2,none⟩ (.bool s1)).setCell ⟨g9,3,none⟩ (.slice o1 k1 c1)).setCell ⟨g9,4,none⟩ (.bool sa)).setCell ⟨g9,5,none⟩ (.slice oa ka ca)).setCell ⟨g9,6,none⟩ (.map (some b))).setCell ⟨g9,7,none⟩ (.map (some bd))):=(((((((((KX.refl (T:=fun i => i = g9) Wb).setCell (p:=⟨g9,0,none⟩) (.inl rfl) (.int .i64 (r:Int))).setCell (p:=⟨g9,1,none⟩) (.inl rfl) (.int .i64 (c:Int))).setCell (p:=⟨g9,2,none⟩) (.inl rfl) (.bool s1)).setCell (p:=⟨g9,3,none⟩) (.inl rfl) (.slice o1 k1 c1)).setCell (p:=⟨g9,4,none⟩) (.inl rfl) (.bool sa)).setCell (p:=⟨g9,5,none⟩) (.inl rfl) (.slice oa ka ca)).setCell (p:=⟨g9,6,none⟩) (.inl rfl) (.map (some b))).setCell (p:=⟨g9,7,none⟩) (.inl rfl) (.map (some bd)))
   have zm:=zm.kx hx hfr (by intro e; simp [e] at hne)
   have z:=((((((((z.set 0 (.int .i64 (r:Int))).set 1 (.int .i64 (c:Int))).set 2 (.bool s1)).set 3 (.slice o1 k1 c1)).set 4 (.bool sa)).set 5 (.slice oa ka ca)).set 6 (.map (some b))).set 7 (.map (some bd)))
   have KT:=((((((((KT.setCell (p:=⟨g9,0,none⟩) hg (.int .i64 (r:Int))).setCell (p:=⟨g9,1,none⟩) hg (.int .i64 (c:Int))).setCell (p:=⟨g9,2,none⟩) hg (.bool s1)).setCell (p:=⟨g9,3,none⟩) hg (.slice o1 k1 c1)).setCell (p:=⟨g9,4,none⟩) hg (.bool sa)).setCell (p:=⟨g9,5,none⟩) hg (.slice oa ka ca)).setCell (p:=⟨g9,6,none⟩) hg (.map (some b))).setCell (p:=⟨g9,7,none⟩) hg (.map (some bd)))
   generalize ((((((((Wb.setCell ⟨g9,0,none⟩ (.int .i64 (r:Int))).setCell ⟨g9,1,none⟩ (.int .i64 (c:Int))).setCell ⟨g9,2,none⟩ (.bool s1)).setCell ⟨g9,3,none⟩ (.slice o1 k1 c1)).setCell ⟨g9,4,none⟩ (.bool sa)).setCell ⟨g9,5,none⟩ (.slice oa ka ca)).setCell ⟨g9,6,none⟩ (.map (some b))).setCell ⟨g9,7,none⟩ (.map (some bd))) = Ws at z zm KT hHeld ⊢
   clear c90 g90 c91 g91 c92 g92 c93 g93 c94 g94 c95 g95 c96 g96 c97 g97 hfr
   refine wpAnyH_done (by kernel_rfl) ?_ _
   go_wp2_with fail
   go_meet
   case rel => exact ⟨g9,bd,rfl,KT,z,zm,hg,hgm,by intro e; simp [e] at hne⟩
  refine AllReadyH.cons rfl (fun K hK => ?_) AllReadyH.nil
  go_simp
  refine hK.out _ _ (sS.out _ (KT.alloc _)) (fun hHeld => ?_)
  clear hK K
  have z:=RowL.alloc 87 Wd [.int .i64 0,.int .i64 0,.bool false,.slice none 0 0,.bool false,.slice none 0 0,.map none,.map none]
  have hg:W2.heap.size≤Wd.heap.size:=KT.size
  have KT:=KT.alloc (.cells #[.int .i64 0,.int .i64 0,.bool false,.slice none 0 0,.bool false,.slice none 0 0,.map none,.map none] 87)
  obtain ⟨g9,hg9⟩:∃ p,p = Wd.heap.size:=⟨_,rfl⟩
  rw [← hg9] at z hg ⊢
  generalize Wd.alloc (.cells #[.int .i64 0,.int .i64 0,.bool false,.slice none 0 0,.bool false,.slice none 0 0,.map none,.map none] 87) = Wa at z KT hHeld ⊢
  clear hg9
  refine wpAnyH_ready (rs:=[13]) (by kernel_rfl) (by simp) ?_
  refine AllReadyH.cons rfl (fun K hK => ?_) AllReadyH.nil
  go_simp
  refine hK.out _ _ (sS.out _ (KT.alloc _)) (fun hHeld => ?_)
  clear hK K
  have zm:=NumM.made B Wa n (by have h1:=KT.size; have h2:=HBs.out; omega)
  have hgm:W2.heap.size≤Wa.heap.size:=KT.size
  have hne:(Wa.heap.size = g9) = False:=by have:=z.lt; simp; omega
  have z:=z.kept ((Kept.refl Wa).alloc (.map #[] 0))
  have KT:=KT.alloc (.map #[] 0)
  obtain ⟨bd,hbd⟩:∃ p,p = Wa.heap.size:=⟨_,rfl⟩
  rw [← hbd] at zm hgm hne ⊢
  generalize Wa.alloc (.map #[] 0) = Wb at zm KT hHeld z ⊢
  clear hbd
  refine wk 14 hHeld ?_
  have c90:=z.cell 0 _
  have c91:=z.cell 1 _
  have c92:=z.cell 2 _
  have c93:=z.cell 3 _
  have c94:=z.cell 4 _
  have c95:=z.cell 5 _
  have c96:=z.cell 6 _
  have c97:=z.cell 7 _
  have g90:=z.fz 0
  have g91:=z.fz 1
  have g92:=z.fz 2
  have g93:=z.fz 3
  have g94:=z.fz 4
  have g95:=z.fz 5
  have g96:=z.fz 6
  have g97:=z.fz 7
  refine wpAnyH_ready (rs:=[16]) (by kernel_rfl) (by simp) ?_
  refine AllReadyH.cons rfl (fun K hK => ?_) AllReadyH.nil
  go_simp
  refine hK.out _ _ (sS.out _ ((((((((KT.setCell (p:=⟨g9,0,none⟩) hg (.int .i64 (r:Int))).setCell (p:=⟨g9,1,none⟩) hg (.int .i64 (c:Int))).setCell (p:=⟨g9,2,none⟩) hg (.bool s1)).setCell (p:=⟨g9,3,none⟩) hg (.slice o1 k1 c1)).setCell (p:=⟨g9,4,none⟩) hg (.bool sa)).setCell (p:=⟨g9,5,none⟩) hg (.slice oa ka ca)).setCell (p:=⟨g9,6,none⟩) hg (.map (some b))).setCell (p:=⟨g9,7,none⟩) hg (.map (some bd)))) (fun hHeld => ?_)
  clear hK K
  have hfr:Free 40 (fun i => i = g9) Wb:=by
   intro k hk cur fr e
   subst hk
   obtain ⟨c',h4,_⟩:=z
   rw [h4] at e
   injection e with e
   injection e with _ e2
   exact absurd e2 (by decide)
  have hx:KX (fun i => i = g9) Wb ((((((((Wb.setCell ⟨g9,0,none⟩ (.int .i64 (r:Int))).setCell ⟨g9,1,none⟩ (.int .i64 (c:Int))).setCell ⟨g9,2,none⟩ (.bool s1)).setCell ⟨g9,3,none⟩ (.slice o1 k1 c1)).setCell ⟨g9,4,none⟩ (.bool sa)).setCell ⟨g9,5,none⟩ (.slice oa ka ca)).setCell ⟨g9,6,none⟩ (.map (some b))).setCell ⟨g9,7,none⟩ (.map (some bd))):=(((((((((KX.refl (T:=fun i => i = g9) Wb).setCell (p:=⟨g9,0,none⟩) (.inl rfl) (.int .i64 (r:Int))).setCell (p:=⟨g9,1,none⟩) (.inl rfl) (.int .i64 (c:Int))).setCell (p:=⟨g9,2,none⟩) (.inl rfl) (.bool s1)).setCell (p:=⟨g9,3,none⟩) (.inl rfl) (.slice o1 k1 c1)).setCell (p:=⟨g9,4,none⟩) (.inl rfl) (.bool sa)).setCell (p:=⟨g9,5,none⟩) (.inl rfl) (.slice oa ka ca)).setCell (p:=⟨g9,6,none⟩) (.inl rfl) (.map (some b))).setCell (p:=⟨g9,7,none⟩) (.inl rfl) (.map (some bd)))
  have zm:=zm.kx hx hfr (by intro e; simp [e] at hne)
  have z:=((((((((z.set 0 (.int .i64 (r:Int))).set 1 (.int .i64 (c:Int))).set 2 (.bool s1)).set 3 (.slice o1 k1 c1)).set 4 (.bool sa)).set 5 (.slice oa ka ca)).set 6 (.map (some b))).set 7 (.map (some bd)))
  have KT:=((((((((KT.setCell (p:=⟨g9,0,none⟩) hg (.int .i64 (r:Int))).setCell (p:=⟨g9,1,none⟩) hg (.int .i64 (c:Int))).setCell (p:=⟨g9,2,none⟩) hg (.bool s1)).setCell (p:=⟨g9,3,none⟩) hg (.slice o1 k1 c1)).setCell (p:=⟨g9,4,none⟩) hg (.bool sa)).setCell (p:=⟨g9,5,none⟩) hg (.slice oa ka ca)).setCell (p:=⟨g9,6,none⟩) hg (.map (some b))).setCell (p:=⟨g9,7,none⟩) hg (.map (some bd)))
  generalize ((((((((Wb.setCell ⟨g9,0,none⟩ (.int .i64 (r:Int))).setCell ⟨g9,1,none⟩ (.int .i64 (c:Int))).setCell ⟨g9,2,none⟩ (.bool s1)).setCell ⟨g9,3,none⟩ (.slice o1 k1 c1)).setCell ⟨g9,4,none⟩ (.bool sa)).setCell ⟨g9,5,none⟩ (.slice oa ka ca)).setCell ⟨g9,6,none⟩ (.map (some b))).setCell ⟨g9,7,none⟩ (.map (some bd))) = Ws at z zm KT hHeld ⊢
  clear c90 g90 c91 g91 c92 g92 c93 g93 c94 g94 c95 g95 c96 g96 c97 g97 hfr
  refine wpAnyH_done (by kernel_rfl) ?_ _
  go_wp2_with fail
  go_meet
  case rel => exact ⟨g9,bd,rfl,KT,z,zm,hg,hgm,by intro e; simp [e] at hne⟩
 case rest =>
  obtain ⟨g9,bd,rfl,HC⟩:=hcut
  have hw:=(HV.out _ HC.out.1).2
  have hT:=(HH.out _ hw).1
  have hbM:=hT.map hr HN.out.2.2
  obtain ⟨w1,hrun,hM1,hx1,hs1⟩:=hbM.drop c 0
  have hne9:bd ≠ b:=by have h1:=HB0.out.2; have h2:=HC.out.2.2.2.2.1; have h3:=HVs.out.2; omega
  -- behind the deletion of the pivot's column in its row
  have hT1:=hT.drop hr HN.out.2.2 hM1 hx1
  have hbox1:=RowL_kx HC.out.2.1 hx1 (hbM.free _)
  have hres1:=RowL_kx ((HV.out _ HC.out.1).1.2) hx1 (hbM.free _)
  have hbd1:=HC.out.2.2.1.kx hx1 (hbM.free _) hne9
  have hz11:=((HZ.out.kept hw).kx hx1 (hbM.free _))
  have hzq1:=((HH.out _ hw).2.kx hx1 (hbM.free _))
  have hcx:=hT1.cell hr
  have hw1:KX (tabT bt n ms) w w1:=(KX.of hw).then hx1 (fun i hi => .inl (.inr ⟨r,hr,by rw [HN.out.2.2,hi]⟩))
  have c6:=HC.out.2.1.cell 6 _
  have cz:=hcx.2.1
  have fz:=hcx.2.2.1
  have H1:=hid (And.intro hT1 (And.intro hbox1 (And.intro hres1 (And.intro hbd1 (And.intro hz11 (And.intro hzq1 (And.intro hw1 (And.intro hM1 hne9))))))))
  clear hT1 hbox1 hres1 hbd1 hz11 hzq1 hw1 hM1 hne9 hx1 hbM hT hw hcx hs1
  --%B
  go_upto_region 4 with fail
  have H2:=hid (show TkS B n bt b bd g9 q2 (fun i => if i = r then none else ms i) [.int .i64 (r:Int),.int .i64 (c:Int),.bool s1,.slice o1 k1 c1,.bool sa,.slice oa ka ca,.map (some b),.map (some bd)] [.int .i64 0,.int .i64 0,.bool false,.slice none 0 0,.bool false,.slice none 0 0,.map none,.map none] s1 sa (.slice o1 k1 c1) (.slice oa ka ca) (F r c) q (upd (F r) c 0) (w1.setCell ⟨bt,r,none⟩ (.map none)) (fun i j => if i = r then 0 else if i = r then upd (F r) c 0 j else F i j) (fun _ => 0)∧KX (tabT bt n ms) w (w1.setCell ⟨bt,r,none⟩ (.map none)) from by
   have kx:KX (fun i => i = bt) w1 (w1.setCell ⟨bt,r,none⟩ (.map none)):=KX.setCell (T:=fun i => i = bt) (KX.refl w1) (p:=⟨bt,r,none⟩) (.inl rfl) _
   have hfr:∀ t,t ≠ 85→Free t (fun i => i = bt) w1:=fun t ht k hk => H1.out.1.free ht k (.inl ⟨by omega,hk⟩)
   have hp:=H1.out.1.put hr none (fun _ => 0) (.inl ⟨rfl,fun _ => rfl⟩) (fun _ _ h => by cases h)
   refine ⟨⟨hp,H1.out.2.2.2.2.2.2.2.1.kx kx (hfr _ (by decide)) (fun e => H1.out.1.far (by omega) H1.out.2.2.2.2.2.2.2.1 e),H1.out.2.2.2.1.kx kx (hfr _ (by decide)) (fun e => H1.out.1.far (by omega) H1.out.2.2.2.1 e),RowL_kx H1.out.2.1 kx (hfr _ (by decide)),RowL_kx H1.out.2.2.1 kx (hfr _ (by decide)),H1.out.2.2.2.2.1.kx kx (hfr _ (by decide)),H1.out.2.2.2.2.2.1.kx kx (hfr _ (by decide))⟩,?_⟩
   exact H1.out.2.2.2.2.2.2.1.then kx (fun i hi => .inl (.inl ⟨by omega,hi⟩)))
  have HD:=hid (show bd ≠ b∧(∀ i,i < n→(if i = r then none else ms i) ≠ some bd)∧(∀ i,i < n→(if i = r then none else ms i) ≠ some b)∧w.heap.size≤bd∧w.heap.size≤q2∧w.heap.size≤g9 from by
   have h3:=HVs.out
   have h2:=HC.out.2.2.2.2.1
   have h4:=HC.out.2.2.2.1
   refine ⟨H1.out.2.2.2.2.2.2.2.2,fun i hi e => ?_,fun i hi e => ?_,by omega,by omega,by omega⟩
   ·
    split at e
    ·
     cases e
    ·
     have:=((HH.out _ (Kept.refl w)).1.lt bd (.inr ⟨i,hi,e⟩)).1
     omega
   ·
    split at e
    ·
     cases e
    ·
     next hne => exact hne ((HH.out _ (Kept.refl w)).1.one i r b hi hr e HN.out.2.2))
  clear hrun c6 cz fz H1
  generalize w1.setCell ⟨bt,r,none⟩ (.map none) = W6 at H2 ⊢
  --%C
  go_wp2
  go_loopw [35] (fun v35 wr => ∃ i:Nat,i≤n∧v35 = .int .i64 (i:Int)∧Hid (KX (tabT bt n ms) w wr∧TkS B n bt b bd g9 q2 (fun i => if i = r then none else ms i) [.int .i64 (r:Int),.int .i64 (c:Int),.bool s1,.slice o1 k1 c1,.bool sa,.slice oa ka ca,.map (some b),.map (some bd)] [.int .i64 0,.int .i64 0,.bool false,.slice none 0 0,.bool false,.slice none 0 0,.map none,.map none] s1 sa (.slice o1 k1 c1) (.slice oa ka ca) (F r c) q (upd (F r) c 0) wr (fun k j => if k = r then 0 else if j = c∧k < i then 0 else F k j) (fun k => if k < i∧k ≠ r then F k c else 0))) (fun v35 _ => n - (intOf v35).toNat)
  case atStart =>
   refine ⟨0,Nat.zero_le _,rfl,H2.out.2,H2.out.1.congr (fun i j _ => ?_) (fun k => by simp)⟩
   by_cases e:i = r
   ·
    simp [e]
   ·
    simp [e]
  case round =>
   obtain ⟨i,hi,rfl,H⟩:=hrel
   by_cases hlt:i < n
   ·
    have hltz:(i:Int) < (n:Int):=by omega
    have hi0:(0:Int)≤(i:Int):=by omega
    have hcx:=H.out.2.tab.cell hlt
    obtain ⟨mo,hmo⟩:∃ mo,mo = (if i = r then none else ms i):=⟨_,rfl⟩
    have cx:=hcx.2.1
    rw [← hmo] at cx
    obtain ⟨v2,hv2,hlk,_⟩:=(show RowM B wr (.map mo) n _ by rw [hmo]; exact H.out.2.tab.row i hlt).look c
    obtain ⟨sy,oy,ky,cy,rfl,hzy,_⟩:=hv2.zn
    have c7:=H.out.2.box.cell 7 _
    have hpt:=put_any (B:=B) bd n i _ sy oy ky cy _ wr H.out.2.down hzy hlt (by simp)
    have HM:=hid hmo
    have HF0:=hid hlt
    clear hmo hcx hv2 hzy
    --%D
    go_wp2_with fail
    refine hpt.mono ?_
    rintro e w2 ⟨rfl,hd2,hx2⟩
    have H3:=H.out.2.put hx2 hd2 HD.out.1 HD.out.2.1
    have HX2:=hid (H.out.1.then hx2 (fun j hj => .inr (by rw [hj]; exact HD.out.2.2.2.1)))
    clear hpt hd2 hx2 hlk c7 cx
    --%E
    cases mo with
    | none =>
     have H3:=hid H3
     have hdn:=drop_nil w2 c 0
     --%F
     go_wp2_with fail
     go_roundw
     case rel =>
      refine ⟨i + 1,by omega,by go_num,HX2.out,H3.out.congr (fun k j hk => ?_) (fun k => ?_)⟩
      ·
       by_cases e:k = r
       ·
        simp [e]
       ·
        rw [if_neg e,if_neg e]
        by_cases e2:k = i
        ·
         subst e2
         have h0:F k j = 0:=by
          have h1:=(HH.out _ (Kept.refl w)).1.row k HF0.out
          have h2:=HM.out
          rw [if_neg e] at h2
          rw [← h2] at h1
          rcases h1 with ⟨_,h1⟩ | ⟨_,h1,_⟩
          ·
           exact h1 j
          ·
           cases h1
         rw [h0]; simp
        ·
         congr 1
         simp; omega
      ·
       unfold upd
       by_cases e:k = i
       ·
        subst e
        by_cases e2:k = r
        ·
         simp [e2]
        ·
         simp [e2]
       ·
        rw [if_neg e]
        congr 1
        simp; omega
     case measure => show n - ((i:Int) + 1).toNat < n - (i:Int).toNat; omega
    | some x =>
     obtain ⟨w3,hrun,hM3,hx3,hs3⟩:=(H3.tab.map HF0.out HM.out.symm).drop c 0
     have H4:=hid (H3.drop HF0.out HM.out.symm hx3 hM3 HD.out.2.1 HD.out.2.2.1)
     have HX3:=hid (HX2.out.then hx3 (fun j hj => by
      have h2:=HM.out
      split at h2
      ·
       cases h2
      ·
       exact .inl (.inr ⟨i,HF0.out,by rw [← h2,hj]⟩)))
     clear H3 hM3 hx3 hs3
     --%G
     go_wp2_with fail
     go_roundw
     case rel =>
      refine ⟨i + 1,by omega,by go_num,HX3.out,H4.out.congr (fun k j hk => ?_) (fun k => ?_)⟩
      ·
       by_cases e:k = r
       ·
        by_cases e2:k = i
        ·
         simp only [if_pos e2]
         unfold upd
         split
         ·
          simp
         ·
          have:i = r:=by omega
          simp [this]
        ·
         rw [if_neg e2]
         simp [e]
       ·
        by_cases e2:k = i
        ·
         simp only [if_pos e2]
         subst e2
         unfold upd
         by_cases e3:j = c
         ·
          simp [e3,e]
         ·
          simp [e3,e]
        ·
         rw [if_neg e2,if_neg e,if_neg e]
         congr 1
         simp; omega
      ·
       unfold upd
       by_cases e:k = i
       ·
        subst e
        by_cases e2:k = r
        ·
         simp [e2]
        ·
         simp [e2]
       ·
        rw [if_neg e]
        congr 1
        simp; omega
     case measure => show n - ((i:Int) + 1).toNat < n - (i:Int).toNat; omega
   ·
    have hltz:¬ (i:Int) < (n:Int):=by omega
    have hin:i = n:=by omega
    subst hin
    have HX:=hid H.out.1
    have H5:=hid (H.out.2.congr (G':=fun k j => if k = r then 0 else if j = c then 0 else F k j) (fun k j hk => by simp [hk]) (fun k => rfl))
    have hg:=HD.out.2.2.2.2
    have hdq:TabR B wr (some ⟨bt,0,none⟩) bt i (fun k => if k = r then none else ms k) _:=H5.out.tab
    have hne:¬ (g9 = q2):=by have h1:=HVs.out; have h2:=HC.out.2.2.2.1; omega
    have d0:=H5.out.box.cell 0 _
    have d1:=H5.out.box.cell 1 _
    have d2:=H5.out.box.cell 2 _
    have d3:=H5.out.box.cell 3 _
    have d4:=H5.out.box.cell 4 _
    have d5:=H5.out.box.cell 5 _
    have d6:=H5.out.box.cell 6 _
    have d7:=H5.out.box.cell 7 _
    have e0:=H5.out.res.cell 0 _
    have e1:=H5.out.res.cell 1 _
    have e2:=H5.out.res.cell 2 _
    have e3:=H5.out.res.cell 3 _
    have e4:=H5.out.res.cell 4 _
    have e5:=H5.out.res.cell 5 _
    have e6:=H5.out.res.cell 6 _
    have e7:=H5.out.res.cell 7 _
    have f0:=H5.out.res.fz 0
    have f1:=H5.out.res.fz 1
    have f2:=H5.out.res.fz 2
    have f3:=H5.out.res.fz 3
    have f4:=H5.out.res.fz 4
    have f5:=H5.out.res.fz 5
    have f6:=H5.out.res.fz 6
    have f7:=H5.out.res.fz 7
    have HE:=hid hg
    clear hg hdq
    --%H
    go_wp2_with fail
    refine bodyPost_ret (v:=.agg #[.int .i64 (r:Int),.int .i64 (c:Int),.bool s1,.slice o1 k1 c1,.bool sa,.slice oa ka ca,.map (some b),.map (some bd)]) (by simp [results,Tryz.results50,go_sem,e0,e1,e2,e3,e4,e5,e6,e7]) rfl ?_
    rw [HQ.out]
    have kx:KX (fun j => j = q2) wr (((((((((wr.setCell ⟨q2,0,none⟩ (.int .i64 (r:Int))).setCell ⟨q2,1,none⟩ (.int .i64 (c:Int))).setCell ⟨q2,2,none⟩ (.bool s1)).setCell ⟨q2,3,none⟩ (.slice o1 k1 c1)).setCell ⟨q2,4,none⟩ (.bool sa)).setCell ⟨q2,5,none⟩ (.slice oa ka ca)).setCell ⟨q2,6,none⟩ (.map (some b))).setCell ⟨q2,7,none⟩ (.map (some bd)))):=(((((((((KX.refl (T:=fun j => j = q2) wr).setCell (p:=⟨q2,0,none⟩) (.inl rfl) (.int .i64 (r:Int))).setCell (p:=⟨q2,1,none⟩) (.inl rfl) (.int .i64 (c:Int))).setCell (p:=⟨q2,2,none⟩) (.inl rfl) (.bool s1)).setCell (p:=⟨q2,3,none⟩) (.inl rfl) (.slice o1 k1 c1)).setCell (p:=⟨q2,4,none⟩) (.inl rfl) (.bool sa)).setCell (p:=⟨q2,5,none⟩) (.inl rfl) (.slice oa ka ca)).setCell (p:=⟨q2,6,none⟩) (.inl rfl) (.map (some b))).setCell (p:=⟨q2,7,none⟩) (.inl rfl) (.map (some bd)))
    have hfr:∀ t,t ≠ 87→Free t (fun j => j = q2) wr:=by
     intro t ht k hk cur fr e
     subst hk
     obtain ⟨c',h4,_⟩:=H5.out.res
     rw [h4] at e
     injection e with e
     injection e with _ e2
     exact ht e2.symm
    have hq2:∀ x n' g',NumM B wr x n' g'→x ≠ q2:=by
     intro x n' g' hm e
     subst e
     obtain ⟨_,es,clock,h5,_⟩:=hm
     obtain ⟨c',h4,_⟩:=H5.out.res
     rw [h5] at h4; cases h4
    have hbt:¬ bt = q2:=by have h1:=HB0.out.1; have h2:=HE.out.1; omega
    refine ⟨HX.out.then kx (fun j hj => .inr (by rw [hj]; exact HE.out.1)),_,bd,rfl,HD.out.2.2.2.1,⟨s1,o1,k1,c1,sa,oa,ka,ca,rfl,H5.out.z1.kx kx (hfr _ (by decide)),H5.out.zq.kx kx (hfr _ (by decide)),(H5.out.own.kx kx (hfr _ (by decide)) (hq2 _ _ _ H5.out.own)).congr fun j => (by unfold upd; rfl),H5.out.down.kx kx (hfr _ (by decide)) (hq2 _ _ _ H5.out.down)⟩,H5.out.tab.kx kx (hfr _ (by decide)) (fun _ => hbt) (fun k x hk e => hq2 x _ _ (H5.out.tab.map hk e))⟩
end Bp
end Go.Proofs.YtdcgdpbgnijnpaaGreat

namespace Go.Proofs.YtdcgdpbgnijnpaaGreat
open Go.RowKit
open V (RowL RowL.alloc RowL.lt RowL.cell RowL.fz RowL.kept RowL.block RowL.set RowL.far)
namespace Bp
open Sp (hid)
open Bm (ZI ZI.kept)
open Sy (alloc_sz)
def W32:Nat:=4294967296 ^ 32
theorem lim_mul {x y:Int} (hx:x.natAbs < W32) (hy:y.natAbs < W32):(x * y).natAbs < 4294967296 ^ 64:=by
 rw [Int.natAbs_mul]
 have h1:x.natAbs * y.natAbs < W32 * W32:=by
  refine Nat.lt_of_le_of_lt (Nat.mul_le_mul_left _ (Nat.le_of_lt hy)) ?_
  exact Nat.mul_lt_mul_of_pos_right hx (by unfold W32; exact Nat.pow_pos (by decide))
 have h2:W32 * W32 = 4294967296 ^ 64:=by unfold W32; rw [← Nat.pow_add]
 omega
theorem lim_72:2 * 4294967296 ^ 64 < M.W72:=by unfold M.W72; decide
theorem lim_step {p a x y:Int} (hp:p.natAbs < W32) (ha:a.natAbs < W32) (hx:x.natAbs < W32) (hy:y.natAbs < W32):(p * a).natAbs < M.W72∧(x * y).natAbs < M.W72∧(p * a - x * y).natAbs < M.W72:=by
 have h1:=lim_mul hp ha
 have h2:=lim_mul hx hy
 have h3:=lim_72
 generalize p * a = u at h1 ⊢
 generalize x * y = v at h2 ⊢
 generalize M.W72 = c at h3 ⊢
 generalize 4294967296 ^ 64 = d at h1 h2 h3
 omega
theorem w32_pos:0 < W32:=by unfold W32; exact Nat.pow_pos (by decide)
structure BhH (B:Nat) (w:World) (n ba:Nat) (mo:Option Nat) (s1 s2 sx:Bool) (v1 v2 vx:Value) (p q x:Int) (f g:Nat→Int):Prop where
 zp:ZN B w s1 v1 p
 zq:ZN B w s2 v2 q
 zx:ZI w sx vx x
 zg:NumM B w ba n g
 zf:RowM B w (.map mo) n f
theorem BhH.kept {B:Nat} {w w':World} {n ba:Nat} {mo:Option Nat} {s1 s2 sx:Bool} {v1 v2 vx:Value} {p q x:Int} {f g:Nat→Int} (h:BhH B w n ba mo s1 s2 sx v1 v2 vx p q x f g) (k:Kept w w'):BhH B w' n ba mo s1 s2 sx v1 v2 vx p q x f g :=
 ⟨h.zp.kept k,h.zq.kept k,h.zx.kept k,h.zg.kept k,h.zf.kept k⟩
structure BhN (p q x:Int) (f g f':Nat→Int):Prop where
 bp:p.natAbs < W32
 bx:x.natAbs < W32
 bf:∀ k,(f k).natAbs < W32
 bg:∀ k,(g k).natAbs < W32
 bq:q ≠ 0
 is:∀ k,f' k * q = p * f k - x * g k
theorem BhN.nil {p q x:Int} {f g f':Nat→Int} (h:BhN p q x f g f') {k:Nat} (h1:f k = 0) (h2:x = 0 ∨ g k = 0):f' k = 0:=by
 have h3:=h.is k
 have h4:p * f k - x * g k = 0:=by
  rw [h1]
  rcases h2 with h2 | h2 <;> rw [h2] <;> simp
 rw [h4] at h3
 rcases Int.mul_eq_zero.1 h3 with h5 | h5
 ·
  exact h5
 ·
  exact absurd h5 h.bq
set_option maxRecDepth 100000 in
set_option maxHeartbeats 40000000 in
theorem behind_any (B n ba bd sr sc:Nat) (mo:Option Nat) (s1 s2 sx:Bool) (o1 o2 ox:Option Addr) (k1 c1 k2 c2 kx cx:Nat) (p q x:Int) (f g f':Nat→Int) (w:World) (h:BhH B w n ba mo s1 s2 sx (.slice o1 k1 c1) (.slice o2 k2 c2) (.slice ox kx cx) p q x f g) (hN:BhN p q x f g f') (hB:B≤w.heap.size) :
  Calls Tryz.prog 85 #[.agg #[.int .i64 (sr:Int),.int .i64 (sc:Int),.bool s1,.slice o1 k1 c1,.bool s2,.slice o2 k2 c2,.map (some ba),.map (some bd)],.map mo,.agg #[.bool sx,.slice ox kx cx]] w fun e w' => Kept w w'∧∃ m,e = .returned (.map (some m))∧w.heap.size≤m∧NumM B w' m n f':=by
 have HH:=hid (fun (W:World) (K:Kept w W) => h.kept K)
 have HN:=hid (And.intro hN (And.intro hB (ZI.zero h.zx)))
 clear h hN hB
 have br1:=RowL.alloc 87 w [.int .i64 (sr:Int),.int .i64 (sc:Int),.bool s1,.slice o1 k1 c1,.bool s2,.slice o2 k2 c2,.map (some ba),.map (some bd)]
 have bk1:=(Kept.refl w).alloc (.cells #[.int .i64 (sr:Int),.int .i64 (sc:Int),.bool s1,.slice o1 k1 c1,.bool s2,.slice o2 k2 c2,.map (some ba),.map (some bd)] 87)
 have bs1:=alloc_sz w (.cells #[.int .i64 (sr:Int),.int .i64 (sc:Int),.bool s1,.slice o1 k1 c1,.bool s2,.slice o2 k2 c2,.map (some ba),.map (some bd)] 87)
 have br2:=RowL.alloc 37 (w.alloc (.cells #[.int .i64 (sr:Int),.int .i64 (sc:Int),.bool s1,.slice o1 k1 c1,.bool s2,.slice o2 k2 c2,.map (some ba),.map (some bd)] 87)) [.bool sx,.slice ox kx cx]
 have bk2:=(Kept.refl (w.alloc (.cells #[.int .i64 (sr:Int),.int .i64 (sc:Int),.bool s1,.slice o1 k1 c1,.bool s2,.slice o2 k2 c2,.map (some ba),.map (some bd)] 87))).alloc (.cells #[.bool sx,.slice ox kx cx] 37)
 have bs2:=alloc_sz (w.alloc (.cells #[.int .i64 (sr:Int),.int .i64 (sc:Int),.bool s1,.slice o1 k1 c1,.bool s2,.slice o2 k2 c2,.map (some ba),.map (some bd)] 87)) (.cells #[.bool sx,.slice ox kx cx] 37)
 rw [bs1] at br2
 have sN:(((w.alloc (.cells #[.int .i64 (sr:Int),.int .i64 (sc:Int),.bool s1,.slice o1 k1 c1,.bool s2,.slice o2 k2 c2,.map (some ba),.map (some bd)] 87)).alloc (.cells #[.bool sx,.slice ox kx cx] 37))).heap.size = w.heap.size + 1 + 1:=by rw [bs2,bs1]
 have hs2z:(w.alloc (.cells #[.int .i64 (sr:Int),.int .i64 (sc:Int),.bool s1,.slice o1 k1 c1,.bool s2,.slice o2 k2 c2,.map (some ba),.map (some bd)] 87)).heap.size + 1 = ((w.alloc (.cells #[.int .i64 (sr:Int),.int .i64 (sc:Int),.bool s1,.slice o1 k1 c1,.bool s2,.slice o2 k2 c2,.map (some ba),.map (some bd)] 87)).alloc (.cells #[.bool sx,.slice ox kx cx] 37)).heap.size:=bs2.symm
 clear bs1 bs2
 have hmm:=@run_makeMap Tryz.prog
 go_enter Tryz.func85,Tryz.ntmps85
 go_upto_region 1 with fail
 generalize w.alloc (.cells #[.int .i64 (sr:Int),.int .i64 (sc:Int),.bool s1,.slice o1 k1 c1,.bool s2,.slice o2 k2 c2,.map (some ba),.map (some bd)] 87) = W1 at bk1 bk2 br1 br2 sN hs2z ⊢
 generalize W1.alloc (.cells #[.bool sx,.slice ox kx cx] 37) = W2 at bk2 br2 sN hs2z ⊢
 obtain ⟨q2,hq2⟩:∃ p,p = w.heap.size + 1:=⟨_,rfl⟩
 obtain ⟨q1,hq1⟩:∃ p,p = w.heap.size:=⟨_,rfl⟩
 rw [← hq2] at br2 ⊢
 rw [← hq1] at br1 ⊢
 have HV:=hid (show ∀ V,Kept W2 V→(RowL 87 V q1 [.int .i64 (sr:Int),.int .i64 (sc:Int),.bool s1,.slice o1 k1 c1,.bool s2,.slice o2 k2 c2,.map (some ba),.map (some bd)]∧RowL 37 V q2 [.bool sx,.slice ox kx cx])∧Kept w V from fun V K => ⟨⟨br1.kept (bk2.trans K),br2.kept K⟩,bk1.trans (bk2.trans K)⟩)
 have HVa:=hid (show ∀ V,Kept W1 V→(RowL 87 V q1 [.int .i64 (sr:Int),.int .i64 (sc:Int),.bool s1,.slice o1 k1 c1,.bool s2,.slice o2 k2 c2,.map (some ba),.map (some bd)])∧Kept w V from fun V K => ⟨br1.kept K,bk1.trans K⟩)
 have HVb:=hid bk2
 have HVc:=hid hs2z
 have HVs:=hid (show (q1 = w.heap.size∧q2 = w.heap.size + 1)∧W2.heap.size = w.heap.size + 1 + 1 from ⟨⟨hq1,hq2⟩,sN⟩)
 clear bk1 br1 hq1 bk2 br2 hq2 sN hs2z
 -- the map that is made; the way through the row
 have hM:=NumM.made B W2 n (by have:=(HV.out _ (Kept.refl W2)).2.size; have:=HN.out.2.1; omega)
 have kM:=(Kept.refl W2).alloc (.map #[] 0)
 go_upto_region 2 with fail
 clear hmm
 obtain ⟨m,hm⟩:∃ m,m = W2.heap.size:=⟨_,rfl⟩
 rw [← hm] at hM ⊢
 generalize W2.alloc (.map #[] 0) = W3 at hM kM ⊢
 obtain ⟨o,hrun,hR⟩:=rangeM ((HH.out _ (HV.out _ kM).2).zf)
 have HM:=hid (And.intro (hM.kept ((Kept.refl W3).alloc o)) (And.intro (kM.alloc o) (And.intro hm (And.intro hR (And.intro hM.lt kM.size)))))
 clear hM kM hm hR
 --%A
 go_wp2_with fail
 obtain ⟨r,hr⟩:∃ r,r = W3.heap.size:=⟨_,rfl⟩
 have hr2:W2.heap.size≤r:=by rw [hr]; exact HM.out.2.2.2.2.2
 rw [← hr] at HM ⊢
 clear hrun
 generalize W3.alloc o = W4 at HM ⊢
 clear hr
 have HMm:=hid (show W2.heap.size≤m∧W2.heap.size≤r∧m ≠ r from ⟨by rw [HM.out.2.2.1]; exact Nat.le_refl _,hr2,fun e => HM.out.2.2.2.1.far HM.out.1 e⟩)
 clear hr2
 go_loopg [17] n (fun gg _ wr => ∃ D,Hid (Kept W2 wr∧RgO B wr r mo n f D∧NumM B wr m n (fun k => if k ∈ D then f' k else 0)∧n - D.length≤gg))
 case atStart => exact ⟨[],HM.out.2.1,HM.out.2.2.2.1,HM.out.1.congr fun k => by simp,by simp⟩
 case round =>
  obtain ⟨D,H⟩:=hrel
  rcases nextM H.out.2.1 with ⟨hD,hnx⟩ | ⟨k,v,w1,g1,g2,g3,g4,g5,g6,g7,hnx,hen⟩
  ·
   have hnx:=hnx 0
   have HD:=hid hD
   clear hD
   have c0:=(HV.out _ H.out.1).1.2.cell 0 _
   have c1':=(HV.out _ H.out.1).1.2.cell 1 _
   have hno:=nought_any sx ox kx cx wr
   by_cases hkx:kx = 0
   ·
    have H0:=hid hkx
    rw [decide_eq_true hkx] at hno
    clear hkx
    --%C
    go_wp2_with fail
    refine hno.mono ?_
    rintro e w1 ⟨hk,rfl⟩
    have HK:=hid hk
    clear hk
    go_wp2_with fail
    go_ret
    refine ⟨(HV.out _ (H.out.1.trans HK.out)).2,m,rfl,?_,(H.out.2.2.1.kept HK.out).congr fun k => ?_⟩
    ·
     have:=HMm.out.1; have:=HVs.out.2; omega
    ·
     by_cases hf:f k = 0
     ·
      rw [HN.out.1.nil hf (.inl (HN.out.2.2.1 H0.out))]
      split <;> rfl
     ·
      rw [if_pos (HD.out k hf)]
   ·
    have H0:=hid hkx
    rw [decide_eq_false hkx] at hno
    clear hkx
    --%D
    go_wp2_with fail
    refine hno.mono ?_
    rintro e w1 ⟨hk,rfl⟩
    have HK:=hid (And.intro (H.out.1.trans hk) (show NumM B w1 m n (fun k => if f k ≠ 0 then f' k else 0) from (H.out.2.2.1.kept hk).congr fun k => by
     by_cases hf:f k = 0
     ·
      have e0:(if f k ≠ 0 then f' k else 0) = 0:=if_neg (fun e => e hf)
      rw [e0]
      split
      ·
       next hd => exact HN.out.1.nil hf (by
        exfalso
        have:=H.out.2.1
        rcases this with ⟨_,_,_,rfl⟩ | ⟨b,_,_,es,clock,seen,_,_,_,_,_,_,h7⟩
        ·
         cases hd
        ·
         exact h7 k hd hf)
      ·
       rfl
     ·
      have e0:(if f k ≠ 0 then f' k else 0) = f' k:=if_pos hf
      rw [e0,if_pos (HD.out k hf)]))
    clear hk c0 c1' hno hnx HD H
    have c6:=(HV.out _ HK.out.1).1.1.cell 6 _
    obtain ⟨o2',hrun2,hR2⟩:=rangeM (show RowM B w1 (.map (some ba)) n g from .inr ⟨ba,rfl,(HH.out _ (HV.out _ HK.out.1).2).zg⟩)
    --%E
    go_wp2_with fail
    obtain ⟨r2,hr2⟩:∃ r,r = w1.heap.size:=⟨_,rfl⟩
    have HM2:=hid (And.intro hR2 (And.intro (HK.out.1.alloc o2') (And.intro (HK.out.2.kept ((Kept.refl w1).alloc o2')) (show W2.heap.size≤r2 by rw [hr2]; exact HK.out.1.size))))
    rw [← hr2] at HM2 ⊢
    clear hrun2 c6 hR2 hr2
    generalize w1.alloc o2' = W5 at HM2 ⊢
    have HMr:=hid (show m ≠ r2 from fun e => HM2.out.1.far HM2.out.2.2.1 e)
    --%F
    go_loopg [39] n (fun gg _ wr => ∃ D,Hid (Kept W2 wr∧RgO B wr r2 (some ba) n g D∧NumM B wr m n (fun k => if f k ≠ 0 ∨ k ∈ D then f' k else 0)∧n - D.length≤gg))
    case atStart => exact ⟨[],HM2.out.2.1,HM2.out.1,HM2.out.2.2.1.congr fun k => by simp,by simp⟩
    case round =>
     obtain ⟨D,H⟩:=hrel
     rcases nextM H.out.2.1 with ⟨hD,hnx⟩ | ⟨k,v,w1,g1,g2,g3,g4,g5,g6,g7,hnx,hen⟩
     ·
      have hnx:=hnx 0
      have HD:=hid hD
      clear hD
      go_wp2_with fail
      go_ret
      refine ⟨(HV.out _ H.out.1).2,m,rfl,?_,H.out.2.2.1.congr fun k => ?_⟩
      ·
       have:=HMm.out.1; have:=HVs.out.2; omega
      ·
       by_cases hf:f k = 0
       ·
        by_cases hg:g k = 0
        ·
         rw [HN.out.1.nil hf (.inr hg)]
         split <;> rfl
        ·
         rw [if_pos (.inr (HD.out k hg))]
       ·
        rw [if_pos (.inl hf)]
     ·
      have hnx:=hnx 0
      obtain ⟨sa,oa,ka,ca,rfl,hz,_⟩:=g4.zn
      have KW1:Kept W2 w1:=KX.kept H.out.1 g6 (fun i hi => by subst hi; exact HM2.out.2.2.2)
      have hmN:=H.out.2.2.1.kx g6 (H.out.2.1.free _) HMr.out
      have HI:=hid (And.intro g1 (And.intro g3 (And.intro hz (And.intro g5 (And.intro KW1 (And.intro hmN (And.intro H.out.2.2.2 g5.len)))))))
      clear g1 g2 g3 g4 g5 g6 g7 KW1 hmN hz
      have rA:=RowL.alloc 37 w1 [.bool sa,.slice oa ka ca]
      have kA:=(Kept.refl w1).alloc (.cells #[.bool sa,.slice oa ka ca] 37)
      --%G
      go_upto_region 11 with fail
      generalize w1.alloc (.cells #[.bool sa,.slice oa ka ca] 37) = U at rA kA ⊢
      obtain ⟨pa,hpa⟩:∃ p,p = w1.heap.size:=⟨_,rfl⟩
      rw [← hpa] at rA ⊢
      clear hpa hnx hen
      have HU:=hid (And.intro rA kA)
      clear rA kA
      have KU:=HI.out.2.2.2.2.1.trans HU.out.2
      obtain ⟨v2,hv2,_,hlk⟩:=(HH.out _ (HV.out _ KU).2).zf.look k
      obtain ⟨sb,ob,kb,cb,rfl,_,_⟩:=hv2.zn
      have HKU:=hid KU
      clear KU hv2
      have hdec:∃ bb,bb = decide (f k ≠ 0):=⟨_,rfl⟩
      obtain ⟨bb,hbb⟩:=hdec
      rw [← hbb] at hlk
      have HB:=hid hbb
      clear hbb
      cases bb with
      | true =>
       have kB:=(Kept.refl U).alloc (.cells #[.bool sb,.slice ob kb cb] 37)
       --%H
       go_upto_region 12 with fail
       generalize U.alloc (.cells #[.bool sb,.slice ob kb cb] 37) = V at kB ⊢
       have HK2:=hid (HU.out.2.trans kB)
       clear kB hlk
       go_wp2_with fail
       go_roundg (n - (D.length + 1))
       case measure => have h1:=HI.out.2.2.2.2.2.2; simp only [List.length_cons] at h1; omega
       case rel =>
        refine ⟨k :: D,HI.out.2.2.2.2.1.trans HK2.out,HI.out.2.2.2.1.kept HK2.out,(HI.out.2.2.2.2.2.1.kept HK2.out).congr fun j => ?_,by simp⟩
        have hf:f k ≠ 0:=by simpa using HB.out.symm
        by_cases hj:j = k
        ·
         subst hj; rw [if_pos (.inl hf),if_pos (.inl hf)]
        ·
         simp [hj]
      | false =>
       have kB:=(Kept.refl U).alloc (.cells #[.bool sb,.slice ob kb cb] 37)
       --%I
       go_upto_region 12 with fail
       generalize U.alloc (.cells #[.bool sb,.slice ob kb cb] 37) = V at kB ⊢
       have HK2:=hid (And.intro (HU.out.2.trans kB) (And.intro (HU.out.1.kept kB) kB))
       clear kB hlk
       have hf:f k = 0:=by simpa using HB.out.symm
       have HF:=hid hf
       clear hf
       have KV:=HI.out.2.2.2.2.1.trans HK2.out.1
       have hb:=HH.out _ (HV.out _ KV).2
       have hst:=step_any (sr:Int) (sc:Int) s1 s2 false sx sa o1 o2 none ox oa k1 c1 k2 c2 0 0 kx cx ka ca (.map (some ba)) (.map (some bd)) p q 0 x (g k) (f' k) V hb.zp.zi hb.zq.zi (zi_nought V) hb.zx ((HI.out.2.2.1.kept HK2.out.1).zi) (by rw [Int.mul_zero]; decide) (lim_step HN.out.1.bp HN.out.1.bp HN.out.1.bx (HN.out.1.bg k)).2.1 (by
        have:=(lim_step (a:=0) HN.out.1.bp (by exact w32_pos) HN.out.1.bx (HN.out.1.bg k)).2.2
        exact this) HN.out.1.bq (by rw [HN.out.1.is k,HF.out]) ⟨rfl,rfl⟩
       have d0:=(HV.out _ KV).1.1.cell 0 _
       have d1:=(HV.out _ KV).1.1.cell 1 _
       have d2:=(HV.out _ KV).1.1.cell 2 _
       have d3:=(HV.out _ KV).1.1.cell 3 _
       have d4:=(HV.out _ KV).1.1.cell 4 _
       have d5:=(HV.out _ KV).1.1.cell 5 _
       have d6:=(HV.out _ KV).1.1.cell 6 _
       have d7:=(HV.out _ KV).1.1.cell 7 _
       have e0:=(HV.out _ KV).1.2.cell 0 _
       have e1:=(HV.out _ KV).1.2.cell 1 _
       have a0:=HK2.out.2.1.cell 0 _
       have a1:=HK2.out.2.1.cell 1 _
       clear hb KV
       --%J
       go_wp2_with fail
       refine hst.mono ?_
       rintro e w2 ⟨hk,y1,y2,y3,y4,rfl,hy⟩
       have KV2:=HI.out.2.2.2.2.1.trans (HK2.out.1.trans hk)
       have hnm:=HI.out.2.2.2.2.2.1.kept (HK2.out.1.trans hk)
       have hpt:=put_any (B:=B) m n k _ y1 y2 y3 y4 (f' k) w2 hnm (hy.mono (by have h1:=HI.out.2.2.2.2.1.size; have h2:=HK2.out.1.size; have h3:=HN.out.2.1; have h4:=HVs.out.2; omega)) HI.out.2.1 (by rw [if_neg]; rintro (h | h); exact h HF.out; exact HI.out.1 h)
       have HK3:=hid (And.intro KV2 (HI.out.2.2.2.1.kept (HK2.out.1.trans hk)))
       have HFr:=hid (hnm.free 40)
       clear hst d0 d1 d2 d3 d4 d5 d6 d7 e0 e1 a0 a1 hk KV2 hnm hy
       --%K
       go_wp2_with fail
       refine hpt.mono ?_
       rintro e w3 ⟨rfl,hm3,hx3⟩
       have HK4:=hid (And.intro (KX.kept HK3.out.1 hx3 (fun i hi => by subst hi; exact HMm.out.1)) (And.intro hm3 (HK3.out.2.kx hx3 HFr.out (fun e => HMr.out e.symm) (fun b hb => by cases hb; intro e; have h1:=(HH.out _ (HV.out _ (Kept.refl W2)).2).zg.lt; have h2:=HMm.out.1; omega))))
       clear hpt hm3 hx3
       go_wp2_with fail
       go_roundg (n - (D.length + 1))
       case measure => have h1:=HI.out.2.2.2.2.2.2; simp only [List.length_cons] at h1; omega
       case rel =>
        refine ⟨k :: D,HK4.out.1,HK4.out.2.2,HK4.out.2.1.congr fun j => ?_,by simp⟩
        unfold upd
        by_cases hj:j = k
        ·
         subst hj; simp
        ·
         simp [hj]
  ·
   have hnx:=hnx 0
   obtain ⟨sa,oa,ka,ca,rfl,hz,_⟩:=g4.zn
   have KW1:Kept W2 w1:=KX.kept H.out.1 g6 (fun i hi => by subst hi; exact HMm.out.2.1)
   have hmN:=H.out.2.2.1.kx g6 (H.out.2.1.free _) HMm.out.2.2
   have HI:=hid (And.intro g1 (And.intro g3 (And.intro hz (And.intro g5 (And.intro KW1 (And.intro hmN (And.intro H.out.2.2.2 g5.len)))))))
   clear g1 g2 g3 g4 g5 g6 g7 KW1 hmN hz
   have rA:=RowL.alloc 37 w1 [.bool sa,.slice oa ka ca]
   have kA:=(Kept.refl w1).alloc (.cells #[.bool sa,.slice oa ka ca] 37)
   --%L
   go_upto_region 5 with fail
   generalize w1.alloc (.cells #[.bool sa,.slice oa ka ca] 37) = V at rA kA ⊢
   obtain ⟨pa,hpa⟩:∃ p,p = w1.heap.size:=⟨_,rfl⟩
   rw [← hpa] at rA ⊢
   clear hpa hnx hen
   have HK2:=hid (And.intro kA rA)
   clear rA kA
   have KV:=HI.out.2.2.2.2.1.trans HK2.out.1
   have hb:=HH.out _ (HV.out _ KV).2
   obtain ⟨v2,hv2,hlk,_⟩:=hb.zg.look k
   obtain ⟨sb,ob,kb,cb,rfl,hzb,_⟩:=hv2.zn
   have hst:=step_any (sr:Int) (sc:Int) s1 s2 sa sx sb o1 o2 oa ox ob k1 c1 k2 c2 ka ca kx cx kb cb (.map (some ba)) (.map (some bd)) p q (f k) x (g k) (f' k) V hb.zp.zi hb.zq.zi ((HI.out.2.2.1.kept HK2.out.1).zi) hb.zx hzb.zi (lim_step HN.out.1.bp (HN.out.1.bf k) HN.out.1.bx (HN.out.1.bg k)).1 (lim_step HN.out.1.bp (HN.out.1.bf k) HN.out.1.bx (HN.out.1.bg k)).2.1 (lim_step HN.out.1.bp (HN.out.1.bf k) HN.out.1.bx (HN.out.1.bg k)).2.2 HN.out.1.bq (HN.out.1.is k) ⟨rfl,rfl⟩
   have d0:=(HV.out _ KV).1.1.cell 0 _
   have d1:=(HV.out _ KV).1.1.cell 1 _
   have d2:=(HV.out _ KV).1.1.cell 2 _
   have d3:=(HV.out _ KV).1.1.cell 3 _
   have d4:=(HV.out _ KV).1.1.cell 4 _
   have d5:=(HV.out _ KV).1.1.cell 5 _
   have d6:=(HV.out _ KV).1.1.cell 6 _
   have d7:=(HV.out _ KV).1.1.cell 7 _
   have e0:=(HV.out _ KV).1.2.cell 0 _
   have e1:=(HV.out _ KV).1.2.cell 1 _
   have a0:=HK2.out.2.cell 0 _
   have a1:=HK2.out.2.cell 1 _
   clear hb KV hv2 hzb
   --%M
   go_wp2_with fail
   refine hst.mono ?_
   rintro e w2 ⟨hk,y1,y2,y3,y4,rfl,hy⟩
   have KV2:=HI.out.2.2.2.2.1.trans (HK2.out.1.trans hk)
   have hnm:=HI.out.2.2.2.2.2.1.kept (HK2.out.1.trans hk)
   have hpt:=put_any (B:=B) m n k _ y1 y2 y3 y4 (f' k) w2 hnm (hy.mono (by have h1:=HI.out.2.2.2.2.1.size; have h2:=HK2.out.1.size; have h3:=HN.out.2.1; have h4:=HVs.out.2; omega)) HI.out.2.1 (by rw [if_neg HI.out.1])
   have HK3:=hid (And.intro KV2 (HI.out.2.2.2.1.kept (HK2.out.1.trans hk)))
   have HFr:=hid (hnm.free 40)
   clear hst d0 d1 d2 d3 d4 d5 d6 d7 e0 e1 a0 a1 hk KV2 hnm hy hlk
   --%N
   go_wp2_with fail
   refine hpt.mono ?_
   rintro e w3 ⟨rfl,hm3,hx3⟩
   have HK4:=hid (And.intro (KX.kept HK3.out.1 hx3 (fun i hi => by subst hi; exact HMm.out.1)) (And.intro hm3 (HK3.out.2.kx hx3 HFr.out (fun e => HMm.out.2.2 e.symm) (fun b hb => by intro e; have h1:=((HH.out _ (HV.out _ (Kept.refl W2)).2).zf); rw [hb] at h1; rcases h1 with ⟨h1,_⟩ | ⟨b',h1,h3⟩; cases h1; cases h1; have h2:=h3.lt; have h4:=HMm.out.1; omega))))
   clear hpt hm3 hx3
   go_wp2_with fail
   go_roundg (n - (D.length + 1))
   case measure => have h1:=HI.out.2.2.2.2.2.2; simp only [List.length_cons] at h1; omega
   case rel =>
    refine ⟨k :: D,HK4.out.1,HK4.out.2.2,HK4.out.2.1.congr fun j => ?_,by simp⟩
    unfold upd
    by_cases hj:j = k
    ·
     subst hj; simp
    ·
     simp [hj]
end Bp
end Go.Proofs.YtdcgdpbgnijnpaaGreat

namespace Go.Proofs.YtdcgdpbgnijnpaaGreat
open Go.RowKit
open V (RowL RowL.alloc RowL.lt RowL.cell RowL.fz RowL.kept RowL.block RowL.set RowL.far)
namespace Bp
open Sp (hid)
open Bm (ZI ZI.kept)
open Sy (alloc_sz)
structure RdS (B n ba bd q1:Nat) (sv:List Value) (s1 s2:Bool) (v1 v2:Value) (p q:Int) (g d:Nat→Int) (wr:World):Prop where
 box:RowL 87 wr q1 sv
 z1:ZN B wr s1 v1 p
 zq:ZN B wr s2 v2 q
 zg:NumM B wr ba n g
 zd:NumM B wr bd n d
section
variable {B n ba bd q1:Nat} {sv:List Value} {s1 s2:Bool} {v1 v2:Value} {p q:Int} {g d:Nat→Int} {wr w':World} {T:Nat→Prop}
theorem RdS.kx (h:RdS B n ba bd q1 sv s1 s2 v1 v2 p q g d wr) (k:KX T wr w') (h1:Free 40 T wr) (h2:Free 87 T wr) (h3:¬ T ba) (h4:¬ T bd):RdS B n ba bd q1 sv s1 s2 v1 v2 p q g d w' :=
 ⟨RowL_kx h.box k h2,h.z1.kx k h1,h.zq.kx k h1,h.zg.kx k h1 h3,h.zd.kx k h1 h4⟩
theorem RdS.kept (h:RdS B n ba bd q1 sv s1 s2 v1 v2 p q g d wr) (k:Kept wr w'):RdS B n ba bd q1 sv s1 s2 v1 v2 p q g d w':=h.kx (T:=fun _ => False) (KX.of k) (fun _ h => h.elim) (fun _ h => h.elim) (fun h => h) (fun h => h)
end
def RedIs (B:Nat) (w:World) (ao:Option Addr) (bt n:Nat) (F':Nat→Nat→Int) (e:Ending) (w':World):Prop :=
 e = .returned (.tuple #[])∧KX (fun b => 0 < n∧b = bt) w w'∧∃ ms':Nat→Option Nat,TabR B w' ao bt n ms' F'∧∀ i,i < n→∃ b,ms' i = some b∧w.heap.size≤b
set_option maxRecDepth 100000 in
set_option maxHeartbeats 40000000 in
theorem reduce_any (B n bt r c ba bd:Nat) (ms:Nat→Option Nat) (F F':Nat→Nat→Int) (ao:Option Addr) (cap:Nat) (s1 s2:Bool) (o1 o2:Option Addr) (k1 c1 k2 c2:Nat) (p q:Int) (g d:Nat→Int) (w:World) (h:TabR B w ao bt n ms F) (hp:ZN B w s1 (.slice o1 k1 c1) p) (hq:ZN B w s2 (.slice o2 k2 c2) q) (hg:NumM B w ba n g) (hd:NumM B w bd n d)
  (hN:∀ i,i < n→BhN p q (d i) (F i) g (F' i)) (hB:B≤w.heap.size) (hn:n≤1000) :
  Calls Tryz.prog 51 #[.slice ao n cap,.agg #[.int .i64 (r:Int),.int .i64 (c:Int),.bool s1,.slice o1 k1 c1,.bool s2,.slice o2 k2 c2,.map (some ba),.map (some bd)]] w (RedIs B w ao bt n F'):=by
 obtain ⟨Q,hQ⟩:∃ Q,Q = RedIs B w ao bt n F':=⟨_,rfl⟩
 rw [← hQ]
 have HQ:=hid hQ
 clear hQ
 have HH:=hid (And.intro h (And.intro hp (And.intro hq (And.intro hg hd))))
 have HN:=hid (And.intro hN hB)
 clear h hp hq hg hd hN hB
 have br1:=RowL.alloc 87 w [.int .i64 (r:Int),.int .i64 (c:Int),.bool s1,.slice o1 k1 c1,.bool s2,.slice o2 k2 c2,.map (some ba),.map (some bd)]
 have bk1:=(Kept.refl w).alloc (.cells #[.int .i64 (r:Int),.int .i64 (c:Int),.bool s1,.slice o1 k1 c1,.bool s2,.slice o2 k2 c2,.map (some ba),.map (some bd)] 87)
 have bs1:=alloc_sz w (.cells #[.int .i64 (r:Int),.int .i64 (c:Int),.bool s1,.slice o1 k1 c1,.bool s2,.slice o2 k2 c2,.map (some ba),.map (some bd)] 87)
 have sN:((w.alloc (.cells #[.int .i64 (r:Int),.int .i64 (c:Int),.bool s1,.slice o1 k1 c1,.bool s2,.slice o2 k2 c2,.map (some ba),.map (some bd)] 87))).heap.size = w.heap.size + 1:=by rw [bs1]
 clear bs1
 go_enter Tryz.func51,Tryz.ntmps51
 go_upto_region 1 with fail
 generalize w.alloc (.cells #[.int .i64 (r:Int),.int .i64 (c:Int),.bool s1,.slice o1 k1 c1,.bool s2,.slice o2 k2 c2,.map (some ba),.map (some bd)] 87) = W1 at bk1 br1 sN ⊢
 obtain ⟨q1,hq1⟩:∃ p,p = w.heap.size:=⟨_,rfl⟩
 rw [← hq1] at br1 ⊢
 have HV:=hid (show ∀ V,Kept W1 V→(RowL 87 V q1 [.int .i64 (r:Int),.int .i64 (c:Int),.bool s1,.slice o1 k1 c1,.bool s2,.slice o2 k2 c2,.map (some ba),.map (some bd)])∧Kept w V from fun V K => ⟨br1.kept K,bk1.trans K⟩)
 have HVs:=hid (show (q1 = w.heap.size)∧W1.heap.size = w.heap.size + 1 from ⟨hq1,sN⟩)
 clear bk1 br1 hq1 sN
 have kW:=(HV.out _ (Kept.refl W1)).2
 have H0:=hid (show RdS B n ba bd q1 [.int .i64 (r:Int),.int .i64 (c:Int),.bool s1,.slice o1 k1 c1,.bool s2,.slice o2 k2 c2,.map (some ba),.map (some bd)] s1 s2 (.slice o1 k1 c1) (.slice o2 k2 c2) p q g d W1∧TabR B W1 ao bt n ms F∧Kept w W1 from ⟨⟨(HV.out _ (Kept.refl W1)).1,HH.out.2.1.kept kW,HH.out.2.2.1.kept kW,HH.out.2.2.2.1.kept kW,HH.out.2.2.2.2.kept kW⟩,HH.out.1.kept kW,kW⟩)
 clear kW
 go_wp2
 go_loopw [8] (fun v8 wr => ∃ (i:Nat) (mn:Nat→Option Nat),i≤n∧v8 = .int .i64 (i:Int)∧Hid (KX (fun b => 0 < n∧b = bt) w wr∧RdS B n ba bd q1 [.int .i64 (r:Int),.int .i64 (c:Int),.bool s1,.slice o1 k1 c1,.bool s2,.slice o2 k2 c2,.map (some ba),.map (some bd)] s1 s2 (.slice o1 k1 c1) (.slice o2 k2 c2) p q g d wr∧TabR B wr ao bt n (fun k => if k < i then mn k else ms k) (fun k j => if k < i then F' k j else F k j)∧∀ k,k < i→∃ b,mn k = some b∧w.heap.size≤b)) (fun v8 _ => n - (intOf v8).toNat)
 case atStart => exact ⟨0,ms,Nat.zero_le _,rfl,KX.of H0.out.2.2,H0.out.1,by simpa using H0.out.2.1,fun k hk => absurd hk (Nat.not_lt_zero _)⟩
 case round =>
  obtain ⟨i,mn,hi,rfl,H⟩:=hrel
  by_cases hlt:i < n
  ·
   have hltz:(i:Int) < (n:Int):=by omega
   have hi0:(0:Int)≤(i:Int):=by omega
   have hcx:=H.out.2.2.1.cell hlt
   obtain ⟨rfl,cx,fx,hbl,hBb⟩:=hcx
   have hrow:=H.out.2.2.1.row i hlt
   have em:(if i < i then mn i else ms i) = ms i:=if_neg (Nat.lt_irrefl i)
   have hfn:(fun j => if i < i then F' i j else F i j) = F i:=funext fun j => if_neg (Nat.lt_irrefl i)
   rw [hfn] at hrow
   simp only [em] at cx hrow
   obtain ⟨mo,hmo⟩:∃ mo,mo = ms i:=⟨_,rfl⟩
   rw [← hmo] at cx hrow
   have HL:=hid (And.intro hlt (And.intro hbl (And.intro fx hBb)))
   obtain ⟨v2,hv2,hlk,_⟩:=H.out.2.1.zd.look i
   obtain ⟨sy,oy,ky,cy,rfl,hzy,_⟩:=hv2.zn
   have hbh:=behind_any B n ba bd r c mo s1 s2 sy o1 o2 oy k1 c1 k2 c2 ky cy p q (d i) (F i) g (F' i) wr ⟨H.out.2.1.z1,H.out.2.1.zq,hzy.zi,H.out.2.1.zg,hrow⟩ (HN.out.1 i hlt) (by have:=H.out.1.size; have:=HN.out.2; omega)
   have d0:=H.out.2.1.box.cell 0 _
   have d1:=H.out.2.1.box.cell 1 _
   have d2:=H.out.2.1.box.cell 2 _
   have d3:=H.out.2.1.box.cell 3 _
   have d4:=H.out.2.1.box.cell 4 _
   have d5:=H.out.2.1.box.cell 5 _
   have d6:=H.out.2.1.box.cell 6 _
   have d7:=H.out.2.1.box.cell 7 _
   clear hmo hrow hfn em hv2 hzy hbl hBb
   --%A
   go_wp2_with fail
   refine hbh.mono ?_
   rintro e w2 ⟨hk,m,rfl,hm1,hm2⟩
   have hT:=H.out.2.2.1.kept hk
   have HC:=hid (And.intro hk (And.intro hm1 (And.intro hm2 hT)))
   have fx2:=(hT.cell HL.out.1).2.2.1
   have cx2:=(hT.cell HL.out.1).2.1
   clear hbh d0 d1 d2 d3 d4 d5 d6 d7 hk hm1 hm2 hT hlk cx fx
   --%B
   go_wp2_with fail
   go_roundw
   case rel =>
    have hbt:bt < wr.heap.size:=HL.out.2.1
    have kx:KX (fun i => i = bt) w2 (w2.setCell ⟨bt,i,none⟩ (.map (some m))):=KX.setCell (T:=fun i => i = bt) (KX.refl w2) (p:=⟨bt,i,none⟩) (.inl rfl) _
    have hfr:∀ t,t ≠ 85→Free t (fun i => i = bt) w2:=fun t ht k hk => HC.out.2.2.2.free ht k (.inl ⟨by have:=HL.out.1; omega,hk⟩)
    have hm:NumM B (w2.setCell ⟨bt,i,none⟩ (.map (some m))) m n (F' i):=HC.out.2.2.1.kx kx (hfr _ (by decide)) (by have:=HC.out.2.1; intro e; omega)
    have hp:=HC.out.2.2.2.put HL.out.1 (some m) (F' i) (.inr ⟨m,rfl,hm⟩) (fun b k e hk _ e2 => by
     cases e
     have h1:=(H.out.2.2.1.lt m (.inr ⟨k,hk,e2⟩)).1
     have h2:=HC.out.2.1
     omega)
    refine ⟨i + 1,(fun k => if k = i then some m else mn k),by omega,by go_num,?_,(H.out.2.1.kept HC.out.1).kx kx (hfr _ (by decide)) (hfr _ (by decide)) (HC.out.2.2.2.far (by omega) (H.out.2.1.zg.kept HC.out.1)) (HC.out.2.2.2.far (by omega) (H.out.2.1.zd.kept HC.out.1)),?_,fun k hk => ?_⟩
    ·
     exact (H.out.1.trans (KX.of HC.out.1)).then kx (fun j hj => .inl ⟨by have:=HL.out.1; omega,hj⟩)
    ·
     have e1:(fun k => if k = i then some m else (fun k => if k < i then mn k else ms k) k) = fun k => if k < i + 1 then (fun k => if k = i then some m else mn k) k else ms k:=funext fun k => by
      by_cases e:k = i
      ·
       subst e; simp
      ·
       simp only [if_neg e]
       by_cases e2:k < i
       ·
        rw [if_pos e2,if_pos (by omega)]
       ·
        rw [if_neg e2,if_neg (by omega)]
     rw [← e1]
     refine hp.congr fun k j hk => ?_
     by_cases e:k = i
     ·
      subst e; simp
     ·
      simp only [if_neg e]
      by_cases e2:k < i
      ·
       rw [if_pos e2,if_pos (by omega)]
      ·
       rw [if_neg e2,if_neg (by omega)]
    ·
     by_cases e:k = i
     ·
      exact ⟨m,by simp only [if_pos e],by have h1:=HC.out.2.1; have h2:=H.out.1.size; omega⟩
     ·
      simp only [if_neg e]
      exact H.out.2.2.2 k (by omega)
   case measure => show n - ((i:Int) + 1).toNat < n - (i:Int).toNat; omega
  ·
   have hltz:¬ (i:Int) < (n:Int):=by omega
   have hin:i = n:=by omega
   subst hin
   --%C
   go_wp2_with fail
   go_end0
   rw [HQ.out]
   have hT:=H.out.2.2.1
   refine ⟨rfl,H.out.1,mn,⟨hT.lies |> fun h h0 => ?_,fun k hk => ?_,fun k j b hk hj e1 e2 => ?_⟩,H.out.2.2.2⟩
   ·
    obtain ⟨h1,h2,N,f,h3,h4,h5⟩:=h h0
    exact ⟨h1,h2,N,f,h3,h4,fun k hk => by rw [h5 k hk,if_pos hk]⟩
   ·
    have:=hT.row k hk
    simp only [if_pos hk] at this
    exact this
   ·
    exact hT.one k j b hk hj (by rw [if_pos hk]; exact e1) (by rw [if_pos hj]; exact e2)
end Bp
end Go.Proofs.YtdcgdpbgnijnpaaGreat

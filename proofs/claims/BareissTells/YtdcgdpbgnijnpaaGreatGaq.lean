/- bareiss.isNought, duplicate, times, minus, over, opposite. (mk_mz2.py) slices.Clone of limbs, bareiss.duplicate, opposite, step. (mk_mz3.py) slices.IndexFunc and ContainsFunc over whole numbers, rows, a table; bareiss.wide, allRight, put. (mk_mz4.py) over, exact or not. (mk_mzu.py) -/
import Derived.Test.YtdcgdpbgnijnpaaGreatGao
import Derived.Test.YtdcgdpbgnijnpaaGreatGap
import Derived.Test.YtdcgdpbgnijnpaaGreatGaf
import Derived.Test.YtdcgdpbgnijnpaaGreatGad
import Derived.Test.YtdcgdpbgnijnpaaGreatGai
import Derived.Test.YtdcgdpbgnijnpaaGreatGae
import Derived.Test.YtdcgdpbgnijnpaaGreatGag
import Derived.Test.YtdcgdpbgnijnpaaGreatGaa
namespace Go.Proofs.YtdcgdpbgnijnpaaGreat
open Go.RowKit
open V (RowL RowL.alloc RowL.lt RowL.cell RowL.fz RowL.kept RowL.block RowL.set RowL.far)
namespace Bp
open Sp (hid)
open Bm (ZI ZI.kept)
open Sy (alloc_sz)
def ZN (B:Nat) (w:World) (s:Bool) (v:Value) (z:Int):Prop:=∃ l,New B w v l∧M.Right s l∧M.int s l = z
section
variable {B:Nat} {w w':World} {s:Bool} {v:Value} {z:Int}
theorem ZN.zi (h:ZN B w s v z):ZI w s v z:=by obtain ⟨l,h1,h2⟩:=h; exact ⟨l,h1.sl,h2⟩
theorem ZN.kept (h:ZN B w s v z) (k:Kept w w'):ZN B w' s v z:=by obtain ⟨l,h1,h2⟩:=h; exact ⟨l,h1.kept k,h2⟩
theorem ZN.mono {B':Nat} (h:ZN B w s v z) (hB:B'≤B):ZN B' w s v z:=by obtain ⟨l,h1,h2⟩:=h; exact ⟨l,h1.mono hB,h2⟩
theorem ZN.other (h:ZN B w s v z) {p:Addr} (hp:p.block < B) (u:Value):ZN B (w.setCell p u) s v z:=by obtain ⟨l,h1,h2⟩:=h; exact ⟨l,h1.other hp u,h2⟩
theorem ZN.nv (h:ZN B w s v z):NV B w (.agg #[.bool s,v]) z:=by obtain ⟨l,h1,h2⟩:=h; exact ⟨s,v,l,rfl,h1,h2⟩
theorem ZN.kx {T:Nat→Prop} (h:ZN B w s v z) (k:KX T w w') (hT:Free 40 T w):ZN B w' s v z:=by obtain ⟨l,h1,h2⟩:=h; exact ⟨l,New_kx h1 k hT,h2⟩
end
theorem NV.zn {B:Nat} {w:World} {v:Value} {z:Int} (h:NV B w v z):∃ (s:Bool) (ao:Option Addr) (k cap:Nat),v = .agg #[.bool s,.slice ao k cap]∧ZN B w s (.slice ao k cap) z∧(k = 0 ↔ z = 0):=by
 obtain ⟨s,ao,k,cap,rfl,h1,h2⟩:=h.parts
 obtain ⟨s',u,l,e,h3⟩:=h
 simp only [Value.agg.injEq] at e
 have e:=congrArg Array.toList e
 simp only [List.cons.injEq,Value.bool.injEq,and_true] at e
 obtain ⟨rfl,rfl⟩:=e
 exact ⟨s,ao,k,cap,rfl,⟨l,h3⟩,h2⟩
def TellsZ (w:World) (z:Int) (e:Ending) (w':World):Prop:=Kept w w'∧∃ s ao k cap,e = .returned (.agg #[.bool s,.slice ao k cap])∧ZN w.heap.size w' s (.slice ao k cap) z
theorem ZI.zero {w:World} {s:Bool} {ao:Option Addr} {k cap:Nat} {z:Int} (h:ZI w s (.slice ao k cap) z):k = 0 ↔ z = 0:=by
 obtain ⟨l,h1,h2,rfl⟩:=h
 have e:=h1.len
 subst e
 constructor
 ·
  intro e
  have:l = []:=List.eq_nil_of_length_eq_zero e
  subst this
  cases s <;> rfl
 ·
  intro e
  rcases Nat.eq_zero_or_pos l.length with e1 | e1
  ·
   exact e1
  ·
   exfalso
   have h4:=M.natAbs_int s l
   rw [e] at h4
   have h6:=M.val_pos h2.tr (fun e' => by rw [e'] at e1; simp at e1)
   simp at h4
   omega
set_option maxRecDepth 100000 in
set_option maxHeartbeats 4000000 in
theorem nought_any (m:Bool) (ao:Option Addr) (k cap:Nat) (w:World) :
  Calls Tryz.prog 75 #[.agg #[.bool m,.slice ao k cap]] w fun e w' => Kept w w'∧e = .returned (.bool (decide (k = 0))):=by
 obtain ⟨b,hb⟩:∃ b,b = decide (k = 0):=⟨_,rfl⟩
 rw [← hb]
 have HB:=hid (show ((k:Int) == 0) = b by rw [hb]; by_cases h:k = 0 <;> simp [h])
 clear hb
 have HK:=hid ((Kept.refl w).alloc (.cells #[.bool m,.slice ao k cap] 37))
 go_enter Tryz.func75,Tryz.ntmps75
 go_wp2_with fail
 go_ret
 exact ⟨HK.out,by rw [← HB.out]; rfl⟩
set_option maxRecDepth 100000 in
set_option maxHeartbeats 8000000 in
theorem times_any (m n:Bool) (ao bo:Option Addr) (k cap j cbp:Nat) (x y:Int) (w:World) (ha:ZI w m (.slice ao k cap) x) (hb:ZI w n (.slice bo j cbp) y) (hz:(x * y).natAbs < M.W72) :
  Calls Tryz.prog 67 #[.agg #[.bool m,.slice ao k cap],.agg #[.bool n,.slice bo j cbp]] w (TellsZ w (x * y)):=by
 have HC:=hid (show ∀ W,Kept w W→Calls Tryz.prog 93 #[.agg #[.bool m,.slice ao k cap],.agg #[.bool n,.slice bo j cbp]] W fun e w' => Kept W w'∧∃ s ro r rc c,e = .returned (.tuple #[.agg #[.bool s,.slice ro r rc],.int .i64 c])∧ZN W.heap.size w' s (.slice ro r rc) (x * y) from fun W K => by
   obtain ⟨a,h1,h2,e1⟩:=ha
   obtain ⟨b,g1,g2,e2⟩:=hb
   refine (mul_any m n _ _ a b W (h1.kept K) (g1.kept K) (R.of_right h2) (R.of_right g2)).mono ?_
   rintro e w' ⟨hk,s,ro,r,rc,c,rfl,⟨_,l,h3,h4,h5⟩ | ⟨_,_,_,h6⟩⟩
   ·
    exact ⟨hk,s,ro,r,rc,c,rfl,l,h3,h4,by rw [h5,e1,e2]⟩
   ·
    rw [e1,e2] at h6
    omega)
 clear ha hb hz
 obtain ⟨Z,hZ⟩:∃ Z,Z = x * y:=⟨_,rfl⟩
 rw [← hZ] at HC ⊢
 clear hZ
 have br1:=RowL.alloc 37 w [.bool m,.slice ao k cap]
 have bk1:=(Kept.refl w).alloc (.cells #[.bool m,.slice ao k cap] 37)
 have bs1:=alloc_sz w (.cells #[.bool m,.slice ao k cap] 37)
 have br2:=RowL.alloc 37 (w.alloc (.cells #[.bool m,.slice ao k cap] 37)) [.bool n,.slice bo j cbp]
 have bk2:=(Kept.refl (w.alloc (.cells #[.bool m,.slice ao k cap] 37))).alloc (.cells #[.bool n,.slice bo j cbp] 37)
 have bs2:=alloc_sz (w.alloc (.cells #[.bool m,.slice ao k cap] 37)) (.cells #[.bool n,.slice bo j cbp] 37)
 have br3:=RowL.alloc 37 ((w.alloc (.cells #[.bool m,.slice ao k cap] 37)).alloc (.cells #[.bool n,.slice bo j cbp] 37)) [.bool false,.slice none 0 0]
 have bk3:=(Kept.refl ((w.alloc (.cells #[.bool m,.slice ao k cap] 37)).alloc (.cells #[.bool n,.slice bo j cbp] 37))).alloc (.cells #[.bool false,.slice none 0 0] 37)
 have bs3:=alloc_sz ((w.alloc (.cells #[.bool m,.slice ao k cap] 37)).alloc (.cells #[.bool n,.slice bo j cbp] 37)) (.cells #[.bool false,.slice none 0 0] 37)
 rw [bs2,bs1] at br3
 rw [bs1] at br2
 have sN:((((w.alloc (.cells #[.bool m,.slice ao k cap] 37)).alloc (.cells #[.bool n,.slice bo j cbp] 37)).alloc (.cells #[.bool false,.slice none 0 0] 37))).heap.size = w.heap.size + 1 + 1 + 1:=by rw [bs3,bs2,bs1]
 have hs3z:((w.alloc (.cells #[.bool m,.slice ao k cap] 37)).alloc (.cells #[.bool n,.slice bo j cbp] 37)).heap.size + 1 = (((w.alloc (.cells #[.bool m,.slice ao k cap] 37)).alloc (.cells #[.bool n,.slice bo j cbp] 37)).alloc (.cells #[.bool false,.slice none 0 0] 37)).heap.size:=bs3.symm
 clear bs1 bs2 bs3
 go_enter Tryz.func67,Tryz.ntmps67
 go_upto_region 1 with fail
 generalize w.alloc (.cells #[.bool m,.slice ao k cap] 37) = W1 at bk1 bk2 bk3 br1 br2 br3 sN hs3z ⊢
 generalize W1.alloc (.cells #[.bool n,.slice bo j cbp] 37) = W2 at bk2 bk3 br2 br3 sN hs3z ⊢
 generalize W2.alloc (.cells #[.bool false,.slice none 0 0] 37) = W3 at bk3 br3 sN hs3z ⊢
 obtain ⟨p3,hp3⟩:∃ p,p = w.heap.size + 1 + 1:=⟨_,rfl⟩
 obtain ⟨p2,hp2⟩:∃ p,p = w.heap.size + 1:=⟨_,rfl⟩
 obtain ⟨p1,hp1⟩:∃ p,p = w.heap.size:=⟨_,rfl⟩
 rw [← hp3] at br3 ⊢
 rw [← hp2] at br2 ⊢
 rw [← hp1] at br1 ⊢
 have HV:=hid (show ∀ V,Kept W3 V→(RowL 37 V p1 [.bool m,.slice ao k cap]∧RowL 37 V p2 [.bool n,.slice bo j cbp]∧RowL 37 V p3 [.bool false,.slice none 0 0])∧Kept w V from fun V K => ⟨⟨br1.kept (bk2.trans (bk3.trans K)),br2.kept (bk3.trans K),br3.kept K⟩,bk1.trans (bk2.trans (bk3.trans K))⟩)
 have HVa:=hid (show ∀ V,Kept W2 V→(RowL 37 V p1 [.bool m,.slice ao k cap]∧RowL 37 V p2 [.bool n,.slice bo j cbp])∧Kept w V from fun V K => ⟨⟨br1.kept (bk2.trans K),br2.kept K⟩,bk1.trans (bk2.trans K)⟩)
 have HVb:=hid bk3
 have HVc:=hid hs3z
 have HVs:=hid (show (p1 = w.heap.size∧p2 = w.heap.size + 1∧p3 = w.heap.size + 1 + 1)∧W3.heap.size = w.heap.size + 1 + 1 + 1 from ⟨⟨hp1,hp2,hp3⟩,sN⟩)
 clear bk1 br1 hp1 bk2 br2 hp2 bk3 br3 hp3 sN hs3z
 have c0:=(HV.out _ (Kept.refl W3)).1.1.cell 0 _
 have c1:=(HV.out _ (Kept.refl W3)).1.1.cell 1 _
 have c2:=(HV.out _ (Kept.refl W3)).1.2.1.cell 0 _
 have c3:=(HV.out _ (Kept.refl W3)).1.2.1.cell 1 _
 go_wp2_with fail
 refine (HC.out W3 (HV.out _ (Kept.refl W3)).2).mono ?_
 rintro e w1 ⟨hk,s,ro,r,rc,c,rfl,hR⟩
 clear c0 c1 c2 c3
 have kB:=hk.alloc (.cells #[.bool s,.slice ro r rc] 37)
 have rB:=RowL.alloc 37 w1 [.bool s,.slice ro r rc]
 have hR:=hR.kept ((Kept.refl w1).alloc (.cells #[.bool s,.slice ro r rc] 37))
 go_upto_region 2 with fail
 generalize w1.alloc (.cells #[.bool s,.slice ro r rc] 37) = U at kB rB hR ⊢
 obtain ⟨q,hq⟩:∃ q,q = w1.heap.size:=⟨_,rfl⟩
 rw [← hq] at rB ⊢
 clear hq
 have HU:=hid (And.intro kB (And.intro hR hk))
 have c0:=rB.cell 0 _
 have c1:=rB.cell 1 _
 have d0:=(HV.out _ kB).1.2.2.cell 0 _
 have d1:=(HV.out _ kB).1.2.2.cell 1 _
 have f0:=(HV.out _ kB).1.2.2.fz 0
 have f1:=(HV.out _ kB).1.2.2.fz 1
 clear kB hR hk rB
 go_wp2_with fail
 refine bodyPost_ret (v:=.agg #[.bool s,.slice ro r rc]) (by simp [results,Tryz.results67,go_sem,d0,d1]) rfl ⟨?_,s,ro,r,rc,rfl,?_⟩
 ·
  have hs:=HVs.out
  exact ((HV.out _ HU.out.1).2.setCell (by simp; omega) _).setCell (by simp; omega) _
 ·
  have hs:=HVs.out
  exact ((HU.out.2.1.other (by simp; omega) _).other (by simp; omega) _).mono (by omega)
set_option maxRecDepth 100000 in
set_option maxHeartbeats 8000000 in
theorem minus_any (m n:Bool) (ao bo:Option Addr) (k cap j cbp:Nat) (x y:Int) (w:World) (ha:ZI w m (.slice ao k cap) x) (hb:ZI w n (.slice bo j cbp) y) (hz:(x - y).natAbs < M.W72) :
  Calls Tryz.prog 68 #[.agg #[.bool m,.slice ao k cap],.agg #[.bool n,.slice bo j cbp]] w (TellsZ w (x - y)):=by
 have HC:=hid (show ∀ W,Kept w W→Calls Tryz.prog 94 #[.agg #[.bool m,.slice ao k cap],.agg #[.bool n,.slice bo j cbp]] W fun e w' => Kept W w'∧∃ s ro r rc c,e = .returned (.tuple #[.agg #[.bool s,.slice ro r rc],.int .i64 c])∧ZN W.heap.size w' s (.slice ro r rc) (x - y) from fun W K => by
   obtain ⟨a,h1,h2,e1⟩:=ha
   obtain ⟨b,g1,g2,e2⟩:=hb
   refine (sub_any m n _ _ a b W (h1.kept K) (g1.kept K) (R.of_right h2) (R.of_right g2)).mono ?_
   rintro e w' ⟨hk,s,ro,r,rc,c,rfl,⟨_,l,h3,h4,h5⟩ | ⟨_,_,_,h6⟩⟩
   ·
    exact ⟨hk,s,ro,r,rc,c,rfl,l,h3,h4,by rw [h5,e1,e2]⟩
   ·
    rw [e1,e2] at h6
    omega)
 clear ha hb hz
 obtain ⟨Z,hZ⟩:∃ Z,Z = x - y:=⟨_,rfl⟩
 rw [← hZ] at HC ⊢
 clear hZ
 have br1:=RowL.alloc 37 w [.bool m,.slice ao k cap]
 have bk1:=(Kept.refl w).alloc (.cells #[.bool m,.slice ao k cap] 37)
 have bs1:=alloc_sz w (.cells #[.bool m,.slice ao k cap] 37)
 have br2:=RowL.alloc 37 (w.alloc (.cells #[.bool m,.slice ao k cap] 37)) [.bool n,.slice bo j cbp]
 have bk2:=(Kept.refl (w.alloc (.cells #[.bool m,.slice ao k cap] 37))).alloc (.cells #[.bool n,.slice bo j cbp] 37)
 have bs2:=alloc_sz (w.alloc (.cells #[.bool m,.slice ao k cap] 37)) (.cells #[.bool n,.slice bo j cbp] 37)
 have br3:=RowL.alloc 37 ((w.alloc (.cells #[.bool m,.slice ao k cap] 37)).alloc (.cells #[.bool n,.slice bo j cbp] 37)) [.bool false,.slice none 0 0]
 have bk3:=(Kept.refl ((w.alloc (.cells #[.bool m,.slice ao k cap] 37)).alloc (.cells #[.bool n,.slice bo j cbp] 37))).alloc (.cells #[.bool false,.slice none 0 0] 37)
 have bs3:=alloc_sz ((w.alloc (.cells #[.bool m,.slice ao k cap] 37)).alloc (.cells #[.bool n,.slice bo j cbp] 37)) (.cells #[.bool false,.slice none 0 0] 37)
 rw [bs2,bs1] at br3
 rw [bs1] at br2
 have sN:((((w.alloc (.cells #[.bool m,.slice ao k cap] 37)).alloc (.cells #[.bool n,.slice bo j cbp] 37)).alloc (.cells #[.bool false,.slice none 0 0] 37))).heap.size = w.heap.size + 1 + 1 + 1:=by rw [bs3,bs2,bs1]
 have hs3z:((w.alloc (.cells #[.bool m,.slice ao k cap] 37)).alloc (.cells #[.bool n,.slice bo j cbp] 37)).heap.size + 1 = (((w.alloc (.cells #[.bool m,.slice ao k cap] 37)).alloc (.cells #[.bool n,.slice bo j cbp] 37)).alloc (.cells #[.bool false,.slice none 0 0] 37)).heap.size:=bs3.symm
 clear bs1 bs2 bs3
 go_enter Tryz.func68,Tryz.ntmps68
 go_upto_region 1 with fail
 generalize w.alloc (.cells #[.bool m,.slice ao k cap] 37) = W1 at bk1 bk2 bk3 br1 br2 br3 sN hs3z ⊢
 generalize W1.alloc (.cells #[.bool n,.slice bo j cbp] 37) = W2 at bk2 bk3 br2 br3 sN hs3z ⊢
 generalize W2.alloc (.cells #[.bool false,.slice none 0 0] 37) = W3 at bk3 br3 sN hs3z ⊢
 obtain ⟨p3,hp3⟩:∃ p,p = w.heap.size + 1 + 1:=⟨_,rfl⟩
 obtain ⟨p2,hp2⟩:∃ p,p = w.heap.size + 1:=⟨_,rfl⟩
 obtain ⟨p1,hp1⟩:∃ p,p = w.heap.size:=⟨_,rfl⟩
 rw [← hp3] at br3 ⊢
 rw [← hp2] at br2 ⊢
 rw [← hp1] at br1 ⊢
 have HV:=hid (show ∀ V,Kept W3 V→(RowL 37 V p1 [.bool m,.slice ao k cap]∧RowL 37 V p2 [.bool n,.slice bo j cbp]∧RowL 37 V p3 [.bool false,.slice none 0 0])∧Kept w V from fun V K => ⟨⟨br1.kept (bk2.trans (bk3.trans K)),br2.kept (bk3.trans K),br3.kept K⟩,bk1.trans (bk2.trans (bk3.trans K))⟩)
 have HVa:=hid (show ∀ V,Kept W2 V→(RowL 37 V p1 [.bool m,.slice ao k cap]∧RowL 37 V p2 [.bool n,.slice bo j cbp])∧Kept w V from fun V K => ⟨⟨br1.kept (bk2.trans K),br2.kept K⟩,bk1.trans (bk2.trans K)⟩)
 have HVb:=hid bk3
 have HVc:=hid hs3z
 have HVs:=hid (show (p1 = w.heap.size∧p2 = w.heap.size + 1∧p3 = w.heap.size + 1 + 1)∧W3.heap.size = w.heap.size + 1 + 1 + 1 from ⟨⟨hp1,hp2,hp3⟩,sN⟩)
 clear bk1 br1 hp1 bk2 br2 hp2 bk3 br3 hp3 sN hs3z
 have c0:=(HV.out _ (Kept.refl W3)).1.1.cell 0 _
 have c1:=(HV.out _ (Kept.refl W3)).1.1.cell 1 _
 have c2:=(HV.out _ (Kept.refl W3)).1.2.1.cell 0 _
 have c3:=(HV.out _ (Kept.refl W3)).1.2.1.cell 1 _
 go_wp2_with fail
 refine (HC.out W3 (HV.out _ (Kept.refl W3)).2).mono ?_
 rintro e w1 ⟨hk,s,ro,r,rc,c,rfl,hR⟩
 clear c0 c1 c2 c3
 have kB:=hk.alloc (.cells #[.bool s,.slice ro r rc] 37)
 have rB:=RowL.alloc 37 w1 [.bool s,.slice ro r rc]
 have hR:=hR.kept ((Kept.refl w1).alloc (.cells #[.bool s,.slice ro r rc] 37))
 go_upto_region 2 with fail
 generalize w1.alloc (.cells #[.bool s,.slice ro r rc] 37) = U at kB rB hR ⊢
 obtain ⟨q,hq⟩:∃ q,q = w1.heap.size:=⟨_,rfl⟩
 rw [← hq] at rB ⊢
 clear hq
 have HU:=hid (And.intro kB (And.intro hR hk))
 have c0:=rB.cell 0 _
 have c1:=rB.cell 1 _
 have d0:=(HV.out _ kB).1.2.2.cell 0 _
 have d1:=(HV.out _ kB).1.2.2.cell 1 _
 have f0:=(HV.out _ kB).1.2.2.fz 0
 have f1:=(HV.out _ kB).1.2.2.fz 1
 clear kB hR hk rB
 go_wp2_with fail
 refine bodyPost_ret (v:=.agg #[.bool s,.slice ro r rc]) (by simp [results,Tryz.results68,go_sem,d0,d1]) rfl ⟨?_,s,ro,r,rc,rfl,?_⟩
 ·
  have hs:=HVs.out
  exact ((HV.out _ HU.out.1).2.setCell (by simp; omega) _).setCell (by simp; omega) _
 ·
  have hs:=HVs.out
  exact ((HU.out.2.1.other (by simp; omega) _).other (by simp; omega) _).mono (by omega)
set_option maxRecDepth 100000 in
set_option maxHeartbeats 8000000 in
theorem over_any (m n:Bool) (ao bo:Option Addr) (k cap j cbp:Nat) (x y z:Int) (w:World) (ha:ZI w m (.slice ao k cap) x) (hb:ZI w n (.slice bo j cbp) y) (hy:y ≠ 0) (hz:z * y = x) :
  Calls Tryz.prog 69 #[.agg #[.bool m,.slice ao k cap],.agg #[.bool n,.slice bo j cbp]] w (TellsZ w (z)):=by
 have HC:=hid (show ∀ W,Kept w W→Calls Tryz.prog 95 #[.agg #[.bool m,.slice ao k cap],.agg #[.bool n,.slice bo j cbp]] W fun e w' => Kept W w'∧∃ s ro r rc c,e = .returned (.tuple #[.agg #[.bool s,.slice ro r rc],.int .i64 c])∧ZN W.heap.size w' s (.slice ro r rc) (z) from fun W K => by
   obtain ⟨a,h1,h2,e1⟩:=ha
   obtain ⟨b,g1,g2,e2⟩:=hb
   have hb0:0 < b.length:=by
    rcases Nat.eq_zero_or_pos b.length with e3 | e3
    ·
     exfalso
     have:b = []:=List.eq_nil_of_length_eq_zero e3
     subst this
     apply hy
     rw [← e2]
     cases n <;> rfl
    ·
     exact e3
   have hd:M.val b ∣ M.val a:=by
    rw [← M.natAbs_int m a,← M.natAbs_int n b,e1,e2,← hz,Int.natAbs_mul]
    exact Nat.dvd_mul_left _ _
   refine (exact_any m n _ _ a b W (h1.kept K) (g1.kept K) (R.of_right h2) (R.of_right g2) hb0).mono ?_
   rintro e w' ⟨hk,⟨_,s,ro,r,rc,l,rfl,h3,h4,h5⟩ | ⟨h6,_⟩⟩
   ·
    refine ⟨hk,s,ro,r,rc,0,rfl,l,h3,h4,?_⟩
    rw [e1,e2,← hz] at h5
    exact Int.eq_of_mul_eq_mul_right hy h5
   ·
    exact absurd hd h6)
 clear ha hb hz hy
 obtain ⟨Z,hZ⟩:∃ Z,Z = z:=⟨_,rfl⟩
 rw [← hZ] at HC ⊢
 clear hZ
 have br1:=RowL.alloc 37 w [.bool m,.slice ao k cap]
 have bk1:=(Kept.refl w).alloc (.cells #[.bool m,.slice ao k cap] 37)
 have bs1:=alloc_sz w (.cells #[.bool m,.slice ao k cap] 37)
 have br2:=RowL.alloc 37 (w.alloc (.cells #[.bool m,.slice ao k cap] 37)) [.bool n,.slice bo j cbp]
 have bk2:=(Kept.refl (w.alloc (.cells #[.bool m,.slice ao k cap] 37))).alloc (.cells #[.bool n,.slice bo j cbp] 37)
 have bs2:=alloc_sz (w.alloc (.cells #[.bool m,.slice ao k cap] 37)) (.cells #[.bool n,.slice bo j cbp] 37)
 have br3:=RowL.alloc 37 ((w.alloc (.cells #[.bool m,.slice ao k cap] 37)).alloc (.cells #[.bool n,.slice bo j cbp] 37)) [.bool false,.slice none 0 0]
 have bk3:=(Kept.refl ((w.alloc (.cells #[.bool m,.slice ao k cap] 37)).alloc (.cells #[.bool n,.slice bo j cbp] 37))).alloc (.cells #[.bool false,.slice none 0 0] 37)
 have bs3:=alloc_sz ((w.alloc (.cells #[.bool m,.slice ao k cap] 37)).alloc (.cells #[.bool n,.slice bo j cbp] 37)) (.cells #[.bool false,.slice none 0 0] 37)
 rw [bs2,bs1] at br3
 rw [bs1] at br2
 have sN:((((w.alloc (.cells #[.bool m,.slice ao k cap] 37)).alloc (.cells #[.bool n,.slice bo j cbp] 37)).alloc (.cells #[.bool false,.slice none 0 0] 37))).heap.size = w.heap.size + 1 + 1 + 1:=by rw [bs3,bs2,bs1]
 have hs3z:((w.alloc (.cells #[.bool m,.slice ao k cap] 37)).alloc (.cells #[.bool n,.slice bo j cbp] 37)).heap.size + 1 = (((w.alloc (.cells #[.bool m,.slice ao k cap] 37)).alloc (.cells #[.bool n,.slice bo j cbp] 37)).alloc (.cells #[.bool false,.slice none 0 0] 37)).heap.size:=bs3.symm
 clear bs1 bs2 bs3
 go_enter Tryz.func69,Tryz.ntmps69
 go_upto_region 1 with fail
 generalize w.alloc (.cells #[.bool m,.slice ao k cap] 37) = W1 at bk1 bk2 bk3 br1 br2 br3 sN hs3z ⊢
 generalize W1.alloc (.cells #[.bool n,.slice bo j cbp] 37) = W2 at bk2 bk3 br2 br3 sN hs3z ⊢
 generalize W2.alloc (.cells #[.bool false,.slice none 0 0] 37) = W3 at bk3 br3 sN hs3z ⊢
 obtain ⟨p3,hp3⟩:∃ p,p = w.heap.size + 1 + 1:=⟨_,rfl⟩
 obtain ⟨p2,hp2⟩:∃ p,p = w.heap.size + 1:=⟨_,rfl⟩
 obtain ⟨p1,hp1⟩:∃ p,p = w.heap.size:=⟨_,rfl⟩
 rw [← hp3] at br3 ⊢
 rw [← hp2] at br2 ⊢
 rw [← hp1] at br1 ⊢
 have HV:=hid (show ∀ V,Kept W3 V→(RowL 37 V p1 [.bool m,.slice ao k cap]∧RowL 37 V p2 [.bool n,.slice bo j cbp]∧RowL 37 V p3 [.bool false,.slice none 0 0])∧Kept w V from fun V K => ⟨⟨br1.kept (bk2.trans (bk3.trans K)),br2.kept (bk3.trans K),br3.kept K⟩,bk1.trans (bk2.trans (bk3.trans K))⟩)
 have HVa:=hid (show ∀ V,Kept W2 V→(RowL 37 V p1 [.bool m,.slice ao k cap]∧RowL 37 V p2 [.bool n,.slice bo j cbp])∧Kept w V from fun V K => ⟨⟨br1.kept (bk2.trans K),br2.kept K⟩,bk1.trans (bk2.trans K)⟩)
 have HVb:=hid bk3
 have HVc:=hid hs3z
 have HVs:=hid (show (p1 = w.heap.size∧p2 = w.heap.size + 1∧p3 = w.heap.size + 1 + 1)∧W3.heap.size = w.heap.size + 1 + 1 + 1 from ⟨⟨hp1,hp2,hp3⟩,sN⟩)
 clear bk1 br1 hp1 bk2 br2 hp2 bk3 br3 hp3 sN hs3z
 have c0:=(HV.out _ (Kept.refl W3)).1.1.cell 0 _
 have c1:=(HV.out _ (Kept.refl W3)).1.1.cell 1 _
 have c2:=(HV.out _ (Kept.refl W3)).1.2.1.cell 0 _
 have c3:=(HV.out _ (Kept.refl W3)).1.2.1.cell 1 _
 go_wp2_with fail
 refine (HC.out W3 (HV.out _ (Kept.refl W3)).2).mono ?_
 rintro e w1 ⟨hk,s,ro,r,rc,c,rfl,hR⟩
 clear c0 c1 c2 c3
 have kB:=hk.alloc (.cells #[.bool s,.slice ro r rc] 37)
 have rB:=RowL.alloc 37 w1 [.bool s,.slice ro r rc]
 have hR:=hR.kept ((Kept.refl w1).alloc (.cells #[.bool s,.slice ro r rc] 37))
 go_upto_region 2 with fail
 generalize w1.alloc (.cells #[.bool s,.slice ro r rc] 37) = U at kB rB hR ⊢
 obtain ⟨q,hq⟩:∃ q,q = w1.heap.size:=⟨_,rfl⟩
 rw [← hq] at rB ⊢
 clear hq
 have HU:=hid (And.intro kB (And.intro hR hk))
 have c0:=rB.cell 0 _
 have c1:=rB.cell 1 _
 have d0:=(HV.out _ kB).1.2.2.cell 0 _
 have d1:=(HV.out _ kB).1.2.2.cell 1 _
 have f0:=(HV.out _ kB).1.2.2.fz 0
 have f1:=(HV.out _ kB).1.2.2.fz 1
 clear kB hR hk rB
 go_wp2_with fail
 refine bodyPost_ret (v:=.agg #[.bool s,.slice ro r rc]) (by simp [results,Tryz.results69,go_sem,d0,d1]) rfl ⟨?_,s,ro,r,rc,rfl,?_⟩
 ·
  have hs:=HVs.out
  exact ((HV.out _ HU.out.1).2.setCell (by simp; omega) _).setCell (by simp; omega) _
 ·
  have hs:=HVs.out
  exact ((HU.out.2.1.other (by simp; omega) _).other (by simp; omega) _).mono (by omega)
end Bp
end Go.Proofs.YtdcgdpbgnijnpaaGreat

namespace Go.Proofs.YtdcgdpbgnijnpaaGreat
open Go.RowKit
open V (RowL RowL.alloc RowL.lt RowL.cell RowL.fz RowL.kept RowL.block RowL.set RowL.far)
namespace Bp
open Sp (hid wpList_src own_none)
open Bm (ZI ZI.kept)
open Sy (alloc_sz)
theorem und_us:Tryz.prog.underlying 35 = some (.slice 40):=by kernel_rfl
theorem us_nil (a:Addr) (k cap:Nat) (w:World):(binOp BinOp.eql 35 (.slice (some a) k cap) (.slice none 0 0)).run Tryz.prog w = .ok (.bool false) w:=by kernel_rfl
set_option maxRecDepth 100000 in
set_option maxHeartbeats 4000000 in
theorem clone32_any (ao:Option Addr) (cap:Nat) (l:List Nat) (w:World) (h:Sl w (.slice ao l.length cap) l) (h0:0 < l.length) (hl:l.length≤1000000) :
  Calls Tryz.prog 59 #[.slice ao l.length cap] w fun e w' => Kept w w'∧∃ g c,e = .returned (.slice (some ⟨g,0,none⟩) l.length c)∧New w.heap.size w' (.slice (some ⟨g,0,none⟩) l.length c) l:=by
 obtain ⟨hb,ao',cap',hv,hx⟩:=h
 simp only [Value.slice.injEq] at hv
 obtain ⟨rfl,_,rfl⟩:=hv
 obtain ⟨_,b,off,rfl,hlt,hc⟩:=hx h0
 obtain ⟨k,hk⟩:∃ k,k = l.length:=⟨_,rfl⟩
 have HL:=hid (And.intro hb (And.intro hk (And.intro hlt hc)))
 rw [← hk] at h0 hl ⊢
 clear hx hc hk hlt hb
 obtain ⟨i0,hi,hz0,hz1,hz2⟩:=info_parts Tryz.info40
 go_enter Tryz.func59,Tryz.ntmps59
 have kE:=(Kept.refl w).alloc (Obj.cells #[] 40)
 have hOE:=own_none 40 1 w w.heap.size (Nat.le_refl _)
 have HE:=hid (And.intro kE hOE)
 clear kE hOE
 have hnil:=us_nil ⟨b,off,none⟩ k cap w
 go_wp2_with (at_builtin; refine wpList_src rfl (.tmp 5) (.tmp 6) 35 rfl w.heap.size 40 i0 (.int .u32 0) 1 4 und_us hi hz0 hz1 hz2 rfl (by decide) w.heap.size rfl HE.out.2 (some ⟨b,off,none⟩) k cap (us l) rfl (by rw [us,List.length_map,Nat.mul_one]; exact HL.out.2.1.symm) (fun _ => ⟨_,rfl,Sl.news fun j hj => (HE.out.1.cell (p:=⟨b,off + j,none⟩) HL.out.2.2.1).trans (HL.out.2.2.2 j hj)⟩) (us_oneCell l) (by unfold maxLen; omega) (by omega) (by simp) ?_)
 intro g c w3 hO hgr
 have K3:Kept w w3:=Below.grown HE.out.1 hgr HE.out.1.size (fun i hi => by simp at hi; omega)
 have HN:=hid (And.intro K3 (New.of_owns hO HL.out.1))
 clear K3 hO hgr
 go_wp2_with fail
 go_ret
 exact ⟨HN.out.1,g,c,rfl,HN.out.2⟩
set_option maxRecDepth 100000 in
set_option maxHeartbeats 8000000 in
theorem dupl_any (s:Bool) (ao:Option Addr) (k cap:Nat) (z:Int) (w:World) (h:ZI w s (.slice ao k cap) z) (h0:z ≠ 0) :
  Calls Tryz.prog 31 #[.agg #[.bool s,.slice ao k cap]] w (TellsZ w z):=by
 have HC:=hid (show ∀ W,Kept w W→Calls Tryz.prog 59 #[.slice ao k cap] W fun e w' => Kept W w'∧∃ g c,e = .returned (.slice (some ⟨g,0,none⟩) k c)∧ZN W.heap.size w' s (.slice (some ⟨g,0,none⟩) k c) z from fun W K => by
  have hk0:=ZI.zero h
  obtain ⟨l,h1,h2,h3⟩:=h
  have e:=h1.len
  subst e
  refine (clone32_any ao cap l W (h1.kept K) (by rcases Nat.eq_zero_or_pos l.length with e | e; exact absurd (hk0.1 e) h0; exact e) (by have:=h2.len; omega)).mono ?_
  rintro e w' ⟨hk,g,c,rfl,hN⟩
  exact ⟨hk,g,c,rfl,l,hN,h2,h3⟩)
 clear h h0
 have br1:=RowL.alloc 37 w [.bool s,.slice ao k cap]
 have bk1:=(Kept.refl w).alloc (.cells #[.bool s,.slice ao k cap] 37)
 have bs1:=alloc_sz w (.cells #[.bool s,.slice ao k cap] 37)
 have br2:=RowL.alloc 37 (w.alloc (.cells #[.bool s,.slice ao k cap] 37)) [.bool false,.slice none 0 0]
 have bk2:=(Kept.refl (w.alloc (.cells #[.bool s,.slice ao k cap] 37))).alloc (.cells #[.bool false,.slice none 0 0] 37)
 have bs2:=alloc_sz (w.alloc (.cells #[.bool s,.slice ao k cap] 37)) (.cells #[.bool false,.slice none 0 0] 37)
 rw [bs1] at br2
 have sN:(((w.alloc (.cells #[.bool s,.slice ao k cap] 37)).alloc (.cells #[.bool false,.slice none 0 0] 37))).heap.size = w.heap.size + 1 + 1:=by rw [bs2,bs1]
 have hs2z:(w.alloc (.cells #[.bool s,.slice ao k cap] 37)).heap.size + 1 = ((w.alloc (.cells #[.bool s,.slice ao k cap] 37)).alloc (.cells #[.bool false,.slice none 0 0] 37)).heap.size:=bs2.symm
 clear bs1 bs2
 go_enter Tryz.func31,Tryz.ntmps31
 go_upto_region 1 with fail
 generalize w.alloc (.cells #[.bool s,.slice ao k cap] 37) = W1 at bk1 bk2 br1 br2 sN hs2z ⊢
 generalize W1.alloc (.cells #[.bool false,.slice none 0 0] 37) = W2 at bk2 br2 sN hs2z ⊢
 obtain ⟨p2,hp2⟩:∃ p,p = w.heap.size + 1:=⟨_,rfl⟩
 obtain ⟨p1,hp1⟩:∃ p,p = w.heap.size:=⟨_,rfl⟩
 rw [← hp2] at br2 ⊢
 rw [← hp1] at br1 ⊢
 have HV:=hid (show ∀ V,Kept W2 V→(RowL 37 V p1 [.bool s,.slice ao k cap]∧RowL 37 V p2 [.bool false,.slice none 0 0])∧Kept w V from fun V K => ⟨⟨br1.kept (bk2.trans K),br2.kept K⟩,bk1.trans (bk2.trans K)⟩)
 have HVa:=hid (show ∀ V,Kept W1 V→(RowL 37 V p1 [.bool s,.slice ao k cap])∧Kept w V from fun V K => ⟨br1.kept K,bk1.trans K⟩)
 have HVb:=hid bk2
 have HVc:=hid hs2z
 have HVs:=hid (show (p1 = w.heap.size∧p2 = w.heap.size + 1)∧W2.heap.size = w.heap.size + 1 + 1 from ⟨⟨hp1,hp2⟩,sN⟩)
 clear bk1 br1 hp1 bk2 br2 hp2 sN hs2z
 have c0:=(HV.out _ (Kept.refl W2)).1.1.cell 0 _
 have c1:=(HV.out _ (Kept.refl W2)).1.1.cell 1 _
 have hne:¬ p2 = p1:=by have:=HVs.out; omega
 go_region_held3 (fun w' => w'.cell? ⟨p1,0,none⟩ = some (.bool s)∧w'.cell? ⟨p1,1,none⟩ = some (.slice ao k cap)) (go_keep) (first
  | (go_at_call 59; refine (HC.out _ (HV.out _ (Kept.refl W2).drew).2).mono ?_; rintro e w1 ⟨hk,g,c,rfl,hN⟩; have KD:=(Kept.refl W2).drew.trans hk; have c0:=(HV.out _ KD).1.1.cell 0 _; have c1:=(HV.out _ KD).1.1.cell 1 _; have d0:=(HV.out _ KD).1.2.cell 0 _; have d1:=(HV.out _ KD).1.2.cell 1 _; have f0:=(HV.out _ KD).1.2.fz 0; have f1:=(HV.out _ KD).1.2.fz 1))
 have HN:=hid (And.intro KD hN)
 clear hk hN KD
 go_wp2_with fail
 refine bodyPost_ret (v:=.agg #[.bool s,.slice (some ⟨g,0,none⟩) k c]) (by simp [results,Tryz.results31,go_sem,d0,d1]) rfl ⟨?_,s,_,k,c,rfl,?_⟩
 ·
  have hs:=HVs.out
  exact ((HV.out _ HN.out.1).2.setCell (by simp; omega) _).setCell (by simp; omega) _
 ·
  have hs:=HVs.out
  have hs2:W2.drew.heap.size = W2.heap.size:=rfl
  exact ((HN.out.2.other (by simp; omega) _).other (by simp; omega) _).mono (by omega)
theorem zi_nought (w:World):ZI w false (.slice none 0 0) 0:=(show ZN 0 w false (.slice none 0 0) 0 from ⟨[],⟨(fun _ h => by cases h),.inl ⟨rfl,rfl⟩⟩,⟨(fun _ h => by cases h),.inl rfl,by decide,fun _ => rfl⟩,rfl⟩).zi
theorem ZI_lt {w:World} {s:Bool} {v:Value} {z:Int} (h:ZI w s v z):z.natAbs < M.W72:=by
 obtain ⟨l,h1,h2,rfl⟩:=h
 rw [M.natAbs_int]
 have:=M.val_lt h2.bd
 have h3:4294967296 ^ l.length≤4294967296 ^ 72:=Nat.pow_le_pow_right (by decide) h2.len
 show _ < 4294967296 ^ 72
 omega
set_option maxRecDepth 100000 in
set_option maxHeartbeats 8000000 in
theorem oppo_any (s:Bool) (ao:Option Addr) (k cap:Nat) (z:Int) (w:World) (h:ZI w s (.slice ao k cap) z) :
  Calls Tryz.prog 37 #[.agg #[.bool s,.slice ao k cap]] w (TellsZ w (-z)):=by
 have HC:=hid (show ∀ W,Kept w W→Calls Tryz.prog 68 #[.agg #[.bool false,.slice none 0 0],.agg #[.bool s,.slice ao k cap]] W (TellsZ W (-z)) from fun W K => by
  have h9:=ZI_lt h
  have:=minus_any false s none ao 0 0 k cap 0 z W (zi_nought W) (h.kept K) (by omega)
  rw [Int.zero_sub] at this
  exact this)
 clear h
 have br1:=RowL.alloc 37 w [.bool s,.slice ao k cap]
 have bk1:=(Kept.refl w).alloc (.cells #[.bool s,.slice ao k cap] 37)
 have bs1:=alloc_sz w (.cells #[.bool s,.slice ao k cap] 37)
 have br2:=RowL.alloc 37 (w.alloc (.cells #[.bool s,.slice ao k cap] 37)) [.bool false,.slice none 0 0]
 have bk2:=(Kept.refl (w.alloc (.cells #[.bool s,.slice ao k cap] 37))).alloc (.cells #[.bool false,.slice none 0 0] 37)
 have bs2:=alloc_sz (w.alloc (.cells #[.bool s,.slice ao k cap] 37)) (.cells #[.bool false,.slice none 0 0] 37)
 rw [bs1] at br2
 have sN:(((w.alloc (.cells #[.bool s,.slice ao k cap] 37)).alloc (.cells #[.bool false,.slice none 0 0] 37))).heap.size = w.heap.size + 1 + 1:=by rw [bs2,bs1]
 have hs2z:(w.alloc (.cells #[.bool s,.slice ao k cap] 37)).heap.size + 1 = ((w.alloc (.cells #[.bool s,.slice ao k cap] 37)).alloc (.cells #[.bool false,.slice none 0 0] 37)).heap.size:=bs2.symm
 clear bs1 bs2
 go_enter Tryz.func37,Tryz.ntmps37
 go_upto_region 1 with fail
 generalize w.alloc (.cells #[.bool s,.slice ao k cap] 37) = W1 at bk1 bk2 br1 br2 sN hs2z ⊢
 generalize W1.alloc (.cells #[.bool false,.slice none 0 0] 37) = W2 at bk2 br2 sN hs2z ⊢
 obtain ⟨p2,hp2⟩:∃ p,p = w.heap.size + 1:=⟨_,rfl⟩
 obtain ⟨p1,hp1⟩:∃ p,p = w.heap.size:=⟨_,rfl⟩
 rw [← hp2] at br2 ⊢
 rw [← hp1] at br1 ⊢
 have HV:=hid (show ∀ V,Kept W2 V→(RowL 37 V p1 [.bool s,.slice ao k cap]∧RowL 37 V p2 [.bool false,.slice none 0 0])∧Kept w V from fun V K => ⟨⟨br1.kept (bk2.trans K),br2.kept K⟩,bk1.trans (bk2.trans K)⟩)
 have HVa:=hid (show ∀ V,Kept W1 V→(RowL 37 V p1 [.bool s,.slice ao k cap])∧Kept w V from fun V K => ⟨br1.kept K,bk1.trans K⟩)
 have HVb:=hid bk2
 have HVc:=hid hs2z
 have HVs:=hid (show (p1 = w.heap.size∧p2 = w.heap.size + 1)∧W2.heap.size = w.heap.size + 1 + 1 from ⟨⟨hp1,hp2⟩,sN⟩)
 clear bk1 br1 hp1 bk2 br2 hp2 sN hs2z
 have c0:=(HV.out _ (Kept.refl W2)).1.1.cell 0 _
 have c1:=(HV.out _ (Kept.refl W2)).1.1.cell 1 _
 go_wp2_with fail
 refine (HC.out W2 (HV.out _ (Kept.refl W2)).2).mono ?_
 rintro e w1 ⟨hk,s1,ro,r,rc,rfl,hR⟩
 have d0:=(HV.out _ hk).1.2.cell 0 _
 have d1:=(HV.out _ hk).1.2.cell 1 _
 have f0:=(HV.out _ hk).1.2.fz 0
 have f1:=(HV.out _ hk).1.2.fz 1
 have HN:=hid (And.intro hk hR)
 clear hk hR c0 c1
 go_wp2_with fail
 refine bodyPost_ret (v:=.agg #[.bool s1,.slice ro r rc]) (by simp [results,Tryz.results37,go_sem,d0,d1]) rfl ⟨?_,s1,ro,r,rc,rfl,?_⟩
 ·
  have hs:=HVs.out
  exact ((HV.out _ HN.out.1).2.setCell (by simp; omega) _).setCell (by simp; omega) _
 ·
  have hs:=HVs.out
  exact ((HN.out.2.other (by simp; omega) _).other (by simp; omega) _).mono (by omega)
set_option maxRecDepth 100000 in
set_option maxHeartbeats 16000000 in
theorem step_any (r c:Int) (s1 s2 sa sx sy:Bool) (o1 o2 oa ox oy:Option Addr) (k1 c1 k2 c2 ka ca kx cx ky cy:Nat) (m1 m2:Value) (p q a x y z:Int) (w:World) (hp:ZI w s1 (.slice o1 k1 c1) p) (hq:ZI w s2 (.slice o2 k2 c2) q) (ha:ZI w sa (.slice oa ka ca) a) (hx:ZI w sx (.slice ox kx cx) x) (hy:ZI w sy (.slice oy ky cy) y)
  (b1:(p * a).natAbs < M.W72) (b2:(x * y).natAbs < M.W72) (b3:(p * a - x * y).natAbs < M.W72) (hq0:q ≠ 0) (hz:z * q = p * a - x * y) (hm:m1.oneCell' = true∧m2.oneCell' = true) :
  Calls Tryz.prog 65 #[.agg #[.int .i64 r,.int .i64 c,.bool s1,.slice o1 k1 c1,.bool s2,.slice o2 k2 c2,m1,m2],.agg #[.bool sa,.slice oa ka ca],.agg #[.bool sx,.slice ox kx cx],.agg #[.bool sy,.slice oy ky cy]] w (TellsZ w z):=by
 have HC1:=hid (fun (W:World) (K:Kept w W) => times_any s1 sa o1 oa k1 c1 ka ca p a W (hp.kept K) (ha.kept K) b1)
 have HC2:=hid (fun (W:World) (K:Kept w W) => times_any sx sy ox oy kx cx ky cy x y W (hx.kept K) (hy.kept K) b2)
 have HC3:=hid (fun (W:World) (m n:Bool) (ao bo:Option Addr) (k cap j cbp:Nat) (h1:ZI W m (.slice ao k cap) (p * a)) (h2:ZI W n (.slice bo j cbp) (x * y)) => minus_any m n ao bo k cap j cbp (p * a) (x * y) W h1 h2 b3)
 have HC4:=hid (fun (W:World) (K:Kept w W) (m:Bool) (ao:Option Addr) (k cap:Nat) (h1:ZI W m (.slice ao k cap) (p * a - x * y)) => over_any m s2 ao o2 k cap k2 c2 (p * a - x * y) q z W h1 (hq.kept K) hq0 hz)
 obtain ⟨pa,hpa⟩:∃ n,n = p * a:=⟨_,rfl⟩
 obtain ⟨xy,hxy⟩:∃ n,n = x * y:=⟨_,rfl⟩
 rw [← hpa] at HC1 HC3 HC4
 rw [← hxy] at HC2 HC3 HC4
 clear hp hq ha hx hy b1 b2 b3 hq0 hz hpa hxy
 obtain ⟨hm1,hm2⟩:=hm
 have br1:=RowL.alloc 87 w [.int .i64 r,.int .i64 c,.bool s1,.slice o1 k1 c1,.bool s2,.slice o2 k2 c2,m1,m2]
 have bk1:=(Kept.refl w).alloc (.cells #[.int .i64 r,.int .i64 c,.bool s1,.slice o1 k1 c1,.bool s2,.slice o2 k2 c2,m1,m2] 87)
 have bs1:=alloc_sz w (.cells #[.int .i64 r,.int .i64 c,.bool s1,.slice o1 k1 c1,.bool s2,.slice o2 k2 c2,m1,m2] 87)
 have br2:=RowL.alloc 37 (w.alloc (.cells #[.int .i64 r,.int .i64 c,.bool s1,.slice o1 k1 c1,.bool s2,.slice o2 k2 c2,m1,m2] 87)) [.bool sa,.slice oa ka ca]
 have bk2:=(Kept.refl (w.alloc (.cells #[.int .i64 r,.int .i64 c,.bool s1,.slice o1 k1 c1,.bool s2,.slice o2 k2 c2,m1,m2] 87))).alloc (.cells #[.bool sa,.slice oa ka ca] 37)
 have bs2:=alloc_sz (w.alloc (.cells #[.int .i64 r,.int .i64 c,.bool s1,.slice o1 k1 c1,.bool s2,.slice o2 k2 c2,m1,m2] 87)) (.cells #[.bool sa,.slice oa ka ca] 37)
 have br3:=RowL.alloc 37 ((w.alloc (.cells #[.int .i64 r,.int .i64 c,.bool s1,.slice o1 k1 c1,.bool s2,.slice o2 k2 c2,m1,m2] 87)).alloc (.cells #[.bool sa,.slice oa ka ca] 37)) [.bool sx,.slice ox kx cx]
 have bk3:=(Kept.refl ((w.alloc (.cells #[.int .i64 r,.int .i64 c,.bool s1,.slice o1 k1 c1,.bool s2,.slice o2 k2 c2,m1,m2] 87)).alloc (.cells #[.bool sa,.slice oa ka ca] 37))).alloc (.cells #[.bool sx,.slice ox kx cx] 37)
 have bs3:=alloc_sz ((w.alloc (.cells #[.int .i64 r,.int .i64 c,.bool s1,.slice o1 k1 c1,.bool s2,.slice o2 k2 c2,m1,m2] 87)).alloc (.cells #[.bool sa,.slice oa ka ca] 37)) (.cells #[.bool sx,.slice ox kx cx] 37)
 have br4:=RowL.alloc 37 (((w.alloc (.cells #[.int .i64 r,.int .i64 c,.bool s1,.slice o1 k1 c1,.bool s2,.slice o2 k2 c2,m1,m2] 87)).alloc (.cells #[.bool sa,.slice oa ka ca] 37)).alloc (.cells #[.bool sx,.slice ox kx cx] 37)) [.bool sy,.slice oy ky cy]
 have bk4:=(Kept.refl (((w.alloc (.cells #[.int .i64 r,.int .i64 c,.bool s1,.slice o1 k1 c1,.bool s2,.slice o2 k2 c2,m1,m2] 87)).alloc (.cells #[.bool sa,.slice oa ka ca] 37)).alloc (.cells #[.bool sx,.slice ox kx cx] 37))).alloc (.cells #[.bool sy,.slice oy ky cy] 37)
 have bs4:=alloc_sz (((w.alloc (.cells #[.int .i64 r,.int .i64 c,.bool s1,.slice o1 k1 c1,.bool s2,.slice o2 k2 c2,m1,m2] 87)).alloc (.cells #[.bool sa,.slice oa ka ca] 37)).alloc (.cells #[.bool sx,.slice ox kx cx] 37)) (.cells #[.bool sy,.slice oy ky cy] 37)
 have br5:=RowL.alloc 37 ((((w.alloc (.cells #[.int .i64 r,.int .i64 c,.bool s1,.slice o1 k1 c1,.bool s2,.slice o2 k2 c2,m1,m2] 87)).alloc (.cells #[.bool sa,.slice oa ka ca] 37)).alloc (.cells #[.bool sx,.slice ox kx cx] 37)).alloc (.cells #[.bool sy,.slice oy ky cy] 37)) [.bool false,.slice none 0 0]
 have bk5:=(Kept.refl ((((w.alloc (.cells #[.int .i64 r,.int .i64 c,.bool s1,.slice o1 k1 c1,.bool s2,.slice o2 k2 c2,m1,m2] 87)).alloc (.cells #[.bool sa,.slice oa ka ca] 37)).alloc (.cells #[.bool sx,.slice ox kx cx] 37)).alloc (.cells #[.bool sy,.slice oy ky cy] 37))).alloc (.cells #[.bool false,.slice none 0 0] 37)
 have bs5:=alloc_sz ((((w.alloc (.cells #[.int .i64 r,.int .i64 c,.bool s1,.slice o1 k1 c1,.bool s2,.slice o2 k2 c2,m1,m2] 87)).alloc (.cells #[.bool sa,.slice oa ka ca] 37)).alloc (.cells #[.bool sx,.slice ox kx cx] 37)).alloc (.cells #[.bool sy,.slice oy ky cy] 37)) (.cells #[.bool false,.slice none 0 0] 37)
 rw [bs4,bs3,bs2,bs1] at br5
 rw [bs3,bs2,bs1] at br4
 rw [bs2,bs1] at br3
 rw [bs1] at br2
 have sN:((((((w.alloc (.cells #[.int .i64 r,.int .i64 c,.bool s1,.slice o1 k1 c1,.bool s2,.slice o2 k2 c2,m1,m2] 87)).alloc (.cells #[.bool sa,.slice oa ka ca] 37)).alloc (.cells #[.bool sx,.slice ox kx cx] 37)).alloc (.cells #[.bool sy,.slice oy ky cy] 37)).alloc (.cells #[.bool false,.slice none 0 0] 37))).heap.size = w.heap.size + 1 + 1 + 1 + 1 + 1:=by rw [bs5,bs4,bs3,bs2,bs1]
 have hs5z:((((w.alloc (.cells #[.int .i64 r,.int .i64 c,.bool s1,.slice o1 k1 c1,.bool s2,.slice o2 k2 c2,m1,m2] 87)).alloc (.cells #[.bool sa,.slice oa ka ca] 37)).alloc (.cells #[.bool sx,.slice ox kx cx] 37)).alloc (.cells #[.bool sy,.slice oy ky cy] 37)).heap.size + 1 = (((((w.alloc (.cells #[.int .i64 r,.int .i64 c,.bool s1,.slice o1 k1 c1,.bool s2,.slice o2 k2 c2,m1,m2] 87)).alloc (.cells #[.bool sa,.slice oa ka ca] 37)).alloc (.cells #[.bool sx,.slice ox kx cx] 37)).alloc (.cells #[.bool sy,.slice oy ky cy] 37)).alloc (.cells #[.bool false,.slice none 0 0] 37)).heap.size:=bs5.symm
 clear bs1 bs2 bs3 bs4 bs5
 go_enter Tryz.func65,Tryz.ntmps65
 go_upto_region 1 with fail
 generalize w.alloc (.cells #[.int .i64 r,.int .i64 c,.bool s1,.slice o1 k1 c1,.bool s2,.slice o2 k2 c2,m1,m2] 87) = W1 at bk1 bk2 bk3 bk4 bk5 br1 br2 br3 br4 br5 sN hs5z ⊢
 generalize W1.alloc (.cells #[.bool sa,.slice oa ka ca] 37) = W2 at bk2 bk3 bk4 bk5 br2 br3 br4 br5 sN hs5z ⊢
 generalize W2.alloc (.cells #[.bool sx,.slice ox kx cx] 37) = W3 at bk3 bk4 bk5 br3 br4 br5 sN hs5z ⊢
 generalize W3.alloc (.cells #[.bool sy,.slice oy ky cy] 37) = W4 at bk4 bk5 br4 br5 sN hs5z ⊢
 generalize W4.alloc (.cells #[.bool false,.slice none 0 0] 37) = W5 at bk5 br5 sN hs5z ⊢
 obtain ⟨q5,hq5⟩:∃ p,p = w.heap.size + 1 + 1 + 1 + 1:=⟨_,rfl⟩
 obtain ⟨q4,hq4⟩:∃ p,p = w.heap.size + 1 + 1 + 1:=⟨_,rfl⟩
 obtain ⟨q3,hq3⟩:∃ p,p = w.heap.size + 1 + 1:=⟨_,rfl⟩
 obtain ⟨q2,hq2⟩:∃ p,p = w.heap.size + 1:=⟨_,rfl⟩
 obtain ⟨q1,hq1⟩:∃ p,p = w.heap.size:=⟨_,rfl⟩
 rw [← hq5] at br5 ⊢
 rw [← hq4] at br4 ⊢
 rw [← hq3] at br3 ⊢
 rw [← hq2] at br2 ⊢
 rw [← hq1] at br1 ⊢
 have HV:=hid (show ∀ V,Kept W5 V→(RowL 87 V q1 [.int .i64 r,.int .i64 c,.bool s1,.slice o1 k1 c1,.bool s2,.slice o2 k2 c2,m1,m2]∧RowL 37 V q2 [.bool sa,.slice oa ka ca]∧RowL 37 V q3 [.bool sx,.slice ox kx cx]∧RowL 37 V q4 [.bool sy,.slice oy ky cy]∧RowL 37 V q5 [.bool false,.slice none 0 0])∧Kept w V from fun V K => ⟨⟨br1.kept (bk2.trans (bk3.trans (bk4.trans (bk5.trans K)))),br2.kept (bk3.trans (bk4.trans (bk5.trans K))),br3.kept (bk4.trans (bk5.trans K)),br4.kept (bk5.trans K),br5.kept K⟩,bk1.trans (bk2.trans (bk3.trans (bk4.trans (bk5.trans K))))⟩)
 have HVa:=hid (show ∀ V,Kept W4 V→(RowL 87 V q1 [.int .i64 r,.int .i64 c,.bool s1,.slice o1 k1 c1,.bool s2,.slice o2 k2 c2,m1,m2]∧RowL 37 V q2 [.bool sa,.slice oa ka ca]∧RowL 37 V q3 [.bool sx,.slice ox kx cx]∧RowL 37 V q4 [.bool sy,.slice oy ky cy])∧Kept w V from fun V K => ⟨⟨br1.kept (bk2.trans (bk3.trans (bk4.trans K))),br2.kept (bk3.trans (bk4.trans K)),br3.kept (bk4.trans K),br4.kept K⟩,bk1.trans (bk2.trans (bk3.trans (bk4.trans K)))⟩)
 have HVb:=hid bk5
 have HVc:=hid hs5z
 have HVs:=hid (show (q1 = w.heap.size∧q2 = w.heap.size + 1∧q3 = w.heap.size + 1 + 1∧q4 = w.heap.size + 1 + 1 + 1∧q5 = w.heap.size + 1 + 1 + 1 + 1)∧W5.heap.size = w.heap.size + 1 + 1 + 1 + 1 + 1 from ⟨⟨hq1,hq2,hq3,hq4,hq5⟩,sN⟩)
 clear bk1 br1 hq1 bk2 br2 hq2 bk3 br3 hq3 bk4 br4 hq4 bk5 br5 hq5 sN hs5z
 have c0:=(HV.out _ (Kept.refl W5)).1.1.cell 2 _
 have c1':=(HV.out _ (Kept.refl W5)).1.1.cell 3 _
 have c2':=(HV.out _ (Kept.refl W5)).1.1.cell 4 _
 have c3:=(HV.out _ (Kept.refl W5)).1.1.cell 5 _
 have c4:=(HV.out _ (Kept.refl W5)).1.2.1.cell 0 _
 have c5:=(HV.out _ (Kept.refl W5)).1.2.1.cell 1 _
 have c6:=(HV.out _ (Kept.refl W5)).1.2.2.1.cell 0 _
 have c7:=(HV.out _ (Kept.refl W5)).1.2.2.1.cell 1 _
 have c8:=(HV.out _ (Kept.refl W5)).1.2.2.2.1.cell 0 _
 have c9:=(HV.out _ (Kept.refl W5)).1.2.2.2.1.cell 1 _
 --%A
 have sS:=hid (fun (V:World) (K:Kept W4 V) => And.intro ((HVa.out _ K).1.1.cell 2 _ rfl) (And.intro ((HVa.out _ K).1.1.cell 3 _ rfl) (And.intro ((HVa.out _ K).1.1.cell 4 _ rfl) (And.intro ((HVa.out _ K).1.1.cell 5 _ rfl) (And.intro ((HVa.out _ K).1.2.1.cell 0 _ rfl) (And.intro ((HVa.out _ K).1.2.1.cell 1 _ rfl) (And.intro ((HVa.out _ K).1.2.2.1.cell 0 _ rfl) (And.intro ((HVa.out _ K).1.2.2.1.cell 1 _ rfl) (And.intro ((HVa.out _ K).1.2.2.2.cell 0 _ rfl) ((HVa.out _ K).1.2.2.2.cell 1 _ rfl))))))))))
 clear c0 c1' c2' c3 c4 c5 c6 c7 c8 c9
 have KT:Kept W5 W5.drew:=(Kept.refl _).drew
 refine wp_region_held_drew (S:=fun w' => w'.cell? ⟨q1,2,none⟩ = some (.bool s1)∧w'.cell? ⟨q1,3,none⟩ = some (.slice o1 k1 c1)∧w'.cell? ⟨q1,4,none⟩ = some (.bool s2)∧w'.cell? ⟨q1,5,none⟩ = some (.slice o2 k2 c2)∧w'.cell? ⟨q2,0,none⟩ = some (.bool sa)∧w'.cell? ⟨q2,1,none⟩ = some (.slice oa ka ca)∧w'.cell? ⟨q3,0,none⟩ = some (.bool sx)∧w'.cell? ⟨q3,1,none⟩ = some (.slice ox kx cx)∧w'.cell? ⟨q4,0,none⟩ = some (.bool sy)∧w'.cell? ⟨q4,1,none⟩ = some (.slice oy ky cy)) (by kernel_rfl) (sS.out _ (HVb.out.trans KT)) (fun hHeld => ?_)
 generalize W5.drew = Wd at KT hHeld ⊢
 refine wk 0 hHeld ?_
 refine wk 1 hHeld ?_
 refine wk 2 hHeld ?_
 refine wk 4 hHeld ?_
 refine wk 5 hHeld ?_
 refine wk 8 hHeld ?_
 refine wk 9 hHeld ?_
 refine wpAnyH_ready (rs:=[3]) (by kernel_rfl) (by simp) ?_
 refine AllReadyH.cons rfl (fun K hK => ?_) AllReadyH.nil
 go_simp
 refine (HC1.out Wd (HV.out _ KT).2).mono ?_
 rintro e u1 ⟨hu,t1,t2,t3,t4,rfl,hu1⟩
 refine hK.out _ _ (sS.out _ (HVb.out.trans (KT.trans hu))) (fun hHeld => ?_)
 clear hK K
 have HWu1:=hid (And.intro (KT.trans hu) hu1)
 have KT:=HWu1.out.1
 clear hu hu1
 refine wpAnyH_ready (rs:=[6]) (by kernel_rfl) (by simp) ?_
 refine AllReadyH.cons rfl (fun K hK => ?_) AllReadyH.nil
 go_simp
 refine (HC2.out u1 (HV.out _ KT).2).mono ?_
 rintro e u2 ⟨hu,y1,y2,y3,y4,rfl,hu2⟩
 refine hK.out _ _ (sS.out _ (HVb.out.trans (KT.trans hu))) (fun hHeld => ?_)
 clear hK K
 have HWu2:=hid (And.intro (KT.trans hu) hu2)
 have HWu1:=hid (HWu1.out.2.kept hu)
 have KT:=HWu2.out.1
 clear hu hu2
 refine wpAnyH_ready (rs:=[7]) (by kernel_rfl) (by simp) ?_
 refine AllReadyH.cons rfl (fun K hK => ?_) AllReadyH.nil
 go_simp
 refine (HC3.out u2 _ _ _ _ _ _ _ _ HWu1.out.zi HWu2.out.2.zi).mono ?_
 rintro e u3 ⟨hu,v1,v2,v3,v4,rfl,hu3⟩
 refine hK.out _ _ (sS.out _ (HVb.out.trans (KT.trans hu))) (fun hHeld => ?_)
 clear hK K
 have HWu3:=hid (And.intro (KT.trans hu) hu3)
 have KT:=HWu3.out.1
 clear hu hu3
 refine wpAnyH_ready (rs:=[10]) (by kernel_rfl) (by simp) ?_
 refine AllReadyH.cons rfl (fun K hK => ?_) AllReadyH.nil
 go_simp
 refine (HC4.out u3 (HV.out _ KT).2 _ _ _ _ HWu3.out.2.zi).mono ?_
 rintro e u4 ⟨hu,w1,w2,w3,w4,rfl,hu4⟩
 refine hK.out _ _ (sS.out _ (HVb.out.trans (KT.trans hu))) (fun hHeld => ?_)
 clear hK K
 have HWu4:=hid (And.intro (KT.trans hu) hu4)
 have KT:=HWu4.out.1
 clear hu hu4
 have d0:=(HV.out _ KT).1.2.2.2.2.cell 0 _
 have d1:=(HV.out _ KT).1.2.2.2.2.cell 1 _
 have f0:=(HV.out _ KT).1.2.2.2.2.fz 0
 have f1:=(HV.out _ KT).1.2.2.2.2.fz 1
 have hsz:=(HV.out _ KT).2.size
 have hs:=HVs.out
 have hs4:=HVb.out.size
 have hs5:W4.heap.size + 1 = W5.heap.size:=HVc.out
 have HB:=hid (show w.heap.size≤q5∧q5 < u3.heap.size∧W4.heap.size≤q5 from ⟨by omega,by have:=HWu3.out.1.size; omega,by omega⟩)
 clear hsz hs hs4 hs5
 --%B
 refine wpAnyH_ready (rs:=[11]) (by kernel_rfl) (by simp) ?_
 refine AllReadyH.cons rfl (fun K hK => ?_) AllReadyH.nil
 go_simp
 refine hK.out _ _ (sS.out _ (((HVb.out.trans KT).setCell (p:=⟨q5,0,none⟩) HB.out.2.2 _).setCell (p:=⟨q5,1,none⟩) HB.out.2.2 _)) (fun hHeld => ?_)
 clear hK K
 refine wpAnyH_done (by kernel_rfl) ?_ _
 go_wp2_with fail
 refine bodyPost_ret (v:=.agg #[.bool w1,.slice w2 w3 w4]) (by simp [results,Tryz.results65,go_sem,d0,d1]) rfl ⟨?_,w1,w2,w3,w4,rfl,?_⟩
 ·
  exact ((HV.out _ KT).2.setCell (by simpa using HB.out.1) _).setCell (by simpa using HB.out.1) _
 ·
  exact ((HWu4.out.2.other (by simpa using HB.out.2.1) _).other (by simpa using HB.out.2.1) _).mono (by have:=(HV.out _ HWu3.out.1).2.size; omega)
end Bp
end Go.Proofs.YtdcgdpbgnijnpaaGreat

namespace Go.Proofs.YtdcgdpbgnijnpaaGreat
open Go.RowKit
open V (RowL RowL.alloc RowL.lt RowL.cell RowL.fz RowL.kept RowL.block RowL.set RowL.far)
namespace Bp
open Sp (hid)
open Bm (ZI ZI.kept)
open Sy (alloc_sz)
def IdxIs (e:Ending) (n:Nat) (p:Nat→Bool):Prop:=∃ i,i≤n∧(∀ j,j < i→p j = false)∧(i < n→p i = true)∧e = .returned (.int .i64 (if i = n then -1 else (i:Int)))
theorem idx_hit {n i:Nat} {p:Nat→Bool} (hi:i < n) (h:∀ j,j < i→p j = false) (hp:p i = true):IdxIs (.returned (.int .i64 (i:Int))) n p :=
 ⟨i,Nat.le_of_lt hi,h,fun _ => hp,by rw [if_neg (by omega)]⟩
theorem idx_miss {n:Nat} {p:Nat→Bool} (h:∀ j,j < n→p j = false):IdxIs (.returned (.int .i64 (-1))) n p :=
 ⟨n,Nat.le_refl _,h,fun h => absurd h (Nat.lt_irrefl _),by rw [if_pos rfl]⟩
def anyB (p:Nat→Bool) (n:Nat):Bool:=(List.range n).any p
theorem any_of_idx {n:Nat} {i:Nat} {p:Nat→Bool} (hi:i≤n) (h1:∀ j,j < i→p j = false) (h2:i < n→p i = true):decide ((0:Int)≤if i = n then -1 else (i:Int)) = anyB p n:=by
 unfold anyB
 by_cases e:i = n
 ·
  subst e
  rw [if_pos rfl]
  symm
  rw [show (decide ((0:Int)≤-1)) = false from rfl,List.any_eq_false]
  intro j hj
  rw [h1 j (List.mem_range.1 hj)]
  exact Bool.false_ne_true
 ·
  rw [if_neg e]
  symm
  rw [show (decide ((0:Int)≤(i:Int))) = true by simp,List.any_eq_true]
  exact ⟨i,List.mem_range.2 (by omega),h2 (by omega)⟩
theorem anyB_ex {p:Nat→Bool} {n:Nat}:anyB p n = true ↔ ∃ j,j < n∧p j = true:=by
 unfold anyB
 rw [List.any_eq_true]
 constructor
 ·
  rintro ⟨j,h1,h2⟩; exact ⟨j,List.mem_range.1 h1,h2⟩
 ·
  rintro ⟨j,h1,h2⟩; exact ⟨j,List.mem_range.2 h1,h2⟩
def IsL (Q:World→Nat→Bool→Value→Prop) (w:World) (v:Value) (n:Nat):Prop :=
 ∃ (ao:Option Addr) (cap:Nat),v = .slice ao n cap∧(0 < n→∃ b off:Nat,ao = some ⟨b,off,none⟩∧b < w.heap.size∧∀ j,j < n→∃ (s:Bool) (so:Option Addr) (sk sc:Nat),w.cell? ⟨b,off + j * 2,none⟩ = some (.bool s)∧w.cell? ⟨b,off + j * 2 + 1,none⟩ = some (.slice so sk sc)∧Q w j s (.slice so sk sc))
theorem IsL.kept {Q:World→Nat→Bool→Value→Prop} (hQ:∀ w w' j s v,Kept w w'→Q w j s v→Q w' j s v) {w w':World} {v:Value} {n:Nat} (h:IsL Q w v n) (k:Kept w w'):IsL Q w' v n:=by
 obtain ⟨ao,cap,rfl,h⟩:=h
 refine ⟨ao,cap,rfl,fun h0 => ?_⟩
 obtain ⟨b,off,rfl,hb,hc⟩:=h h0
 refine ⟨b,off,rfl,Nat.lt_of_lt_of_le hb k.size,fun j hj => ?_⟩
 obtain ⟨s,so,sk,sc,h1,h2,h3⟩:=hc j hj
 exact ⟨s,so,sk,sc,(Below.cell k (p:=⟨b,off + j * 2,none⟩) hb).trans h1,(Below.cell k (p:=⟨b,off + j * 2 + 1,none⟩) hb).trans h2,hQ _ _ _ _ _ k h3⟩
theorem IsL.mono {Q Q':World→Nat→Bool→Value→Prop} {w:World} {v:Value} {n:Nat} (h:IsL Q w v n) (hQ:∀ j s v,j < n→Q w j s v→Q' w j s v):IsL Q' w v n:=by
 obtain ⟨ao,cap,rfl,h⟩:=h
 refine ⟨ao,cap,rfl,fun h0 => ?_⟩
 obtain ⟨b,off,rfl,hb,hc⟩:=h h0
 refine ⟨b,off,rfl,hb,fun j hj => ?_⟩
 obtain ⟨s,so,sk,sc,h1,h2,h3⟩:=hc j hj
 exact ⟨s,so,sk,sc,h1,h2,hQ j s _ hj h3⟩
def El1 (sh:Value→Prop) (Q:World→Nat→Value→Prop) (w:World) (v:Value) (n:Nat):Prop :=
 ∃ (ao:Option Addr) (cap:Nat),v = .slice ao n cap∧(0 < n→∃ b off:Nat,ao = some ⟨b,off,none⟩∧b < w.heap.size∧∀ j,j < n→∃ x:Value,sh x∧w.cell? ⟨b,off + j,none⟩ = some x∧Q w j x)
theorem El1.kept {sh:Value→Prop} {Q:World→Nat→Value→Prop} (hQ:∀ w w' j v,Kept w w'→Q w j v→Q w' j v) {w w':World} {v:Value} {n:Nat} (h:El1 sh Q w v n) (k:Kept w w'):El1 sh Q w' v n:=by
 obtain ⟨ao,cap,rfl,h⟩:=h
 refine ⟨ao,cap,rfl,fun h0 => ?_⟩
 obtain ⟨b,off,rfl,hb,hc⟩:=h h0
 refine ⟨b,off,rfl,Nat.lt_of_lt_of_le hb k.size,fun j hj => ?_⟩
 obtain ⟨x,h0,h1,h2⟩:=hc j hj
 exact ⟨x,h0,(Below.cell k (p:=⟨b,off + j,none⟩) hb).trans h1,hQ _ _ _ _ k h2⟩
def isSl (v:Value):Prop:=∃ ao n c,v = .slice ao n c
def isMp (v:Value):Prop:=∃ m,v = .map m
set_option maxRecDepth 100000 in
set_option maxHeartbeats 4000000 in
theorem idx_ints (g:Nat) (lb:Array Value) (p:Nat→Bool) (eg:∀ args w,(callFunc g args).run Tryz.prog w = .ok (.enter g args) w) (Q:World→Nat→Bool→Value→Prop) (hQ:∀ w w' j s v,Kept w w'→Q w j s v→Q w' j s v) (ao:Option Addr) (n c:Nat) (w:World)
  (hp:∀ W j s v,Kept w W→j < n→Q W j s v→Calls Tryz.prog g (#[.agg #[.bool s,v]] ++ lb) W fun e w' => e = .returned (.bool (p j))∧Kept w w') (h:IsL Q w (.slice ao n c) n) (hbig:n≤9223372036854775807) :
  Calls Tryz.prog 90 #[.slice ao n c,.func (.func g) #[] lb] w fun e w' => Kept w w'∧IdxIs e n p:=by
 have HS:=hid h
 have HQ:=hid hQ
 clear h hQ
 go_enter Tryz.func90,Tryz.ntmps90
 go_wp2
 go_loopw [5,8] (fun _ s8 wr => ∃ kk:Nat,kk≤n∧s8 = .int .i64 kk∧Hid ((∀ j,j < kk→p j = false)∧Kept w wr)) (fun _ s8 _ => n - (intOf s8).toNat)
 case atStart => exact ⟨0,Nat.zero_le _,rfl,(fun j hj => absurd hj (Nat.not_lt_zero _)),Kept.refl w⟩
 case round =>
  obtain ⟨kk,hkk,rfl,BW⟩:=hrel
  by_cases hlt:kk < n
  ·
   have hltz:(kk:Int) < (n:Int):=by omega
   obtain ⟨ao',cap',hv,hx⟩:=IsL.kept HQ.out HS.out BW.out.2
   simp only [Value.slice.injEq] at hv
   obtain ⟨rfl,_,rfl⟩:=hv
   obtain ⟨b,off,rfl,hb,hc⟩:=hx (by omega)
   obtain ⟨s,so,sk,sc,c0,c1,hq0⟩:=hc kk hlt
   have hcall:=hp wr kk s _ BW.out.2 hlt hq0
   clear hx hc hp hq0
   have hcall:Calls Tryz.prog g (#[.agg #[.bool s,.slice so sk sc]] ++ lb) wr fun e w' => e = .returned (.bool (p kk))∧Kept w w':=hcall
   cases hq:p kk with
   | true =>
    rw [hq] at hcall
    have HQ:=hid hq
    clear hq
    go_wp2_with fail
    refine hcall.mono ?_
    rintro e w' ⟨rfl,hb'⟩
    go_wp2
    go_ret
    exact ⟨hb',idx_hit hlt BW.out.1 HQ.out⟩
   | false =>
    rw [hq] at hcall
    have HQ:=hid hq
    clear hq
    go_wp2_with fail
    refine hcall.mono ?_
    rintro e w' ⟨rfl,hb'⟩
    have HB:=hid hb'
    clear hb'
    go_wp2
    go_roundw
    case rel =>
     refine ⟨kk + 1,by omega,by go_num,(show Hid _ from ⟨fun j hj => ?_,HB.out⟩)⟩
     by_cases e:j = kk
     ·
      subst e; exact HQ.out
     ·
      exact BW.out.1 j (by omega)
    case measure => show n - ((kk:Int) + 1).toNat < n - (kk:Int).toNat; omega
  ·
   have hltz:¬ (kk:Int) < (n:Int):=by omega
   have:kk = n:=by omega
   subst this
   go_wp2
   go_ret
   exact ⟨BW.out.2,idx_miss BW.out.1⟩
set_option maxHeartbeats 4000000 in
theorem con_ints (g:Nat) (lb:Array Value) (p:Nat→Bool) (eg:∀ args w,(callFunc g args).run Tryz.prog w = .ok (.enter g args) w) (Q:World→Nat→Bool→Value→Prop) (hQ:∀ w w' j s v,Kept w w'→Q w j s v→Q w' j s v) (ao:Option Addr) (n c:Nat) (w:World)
  (hp:∀ W j s v,Kept w W→j < n→Q W j s v→Calls Tryz.prog g (#[.agg #[.bool s,v]] ++ lb) W fun e w' => e = .returned (.bool (p j))∧Kept w w') (h:IsL Q w (.slice ao n c) n) (hbig:n≤9223372036854775807) :
  Calls Tryz.prog 60 #[.slice ao n c,.func (.func g) #[] lb] w fun e w' => Kept w w'∧e = .returned (.bool (anyB p n)):=by
 have hc:=idx_ints g lb p eg Q hQ ao n c w hp h hbig
 clear hp h hQ
 go_enter Tryz.func60,Tryz.ntmps60
 go_wp2_with fail
 refine hc.mono ?_
 rintro e w' ⟨hk,i,hi,h1,h2,rfl⟩
 have hA:=any_of_idx hi h1 h2
 generalize (if i = n then (-1:Int) else (i:Int)) = z at hA ⊢
 have HA:=hid (show _ = anyB p n from hA)
 clear hA h1 h2 hi
 go_wp2
 all_goals
  go_ret
  refine ⟨hk,congrArg (fun b => Ending.returned (Value.bool b)) ?_⟩
  rw [← HA.out]
  try simp_all
set_option maxRecDepth 100000 in
set_option maxHeartbeats 4000000 in
theorem idx_rows (g:Nat) (lb:Array Value) (p:Nat→Bool) (eg:∀ args w,(callFunc g args).run Tryz.prog w = .ok (.enter g args) w) (Q:World→Nat→Value→Prop) (hQ:∀ w w' j v,Kept w w'→Q w j v→Q w' j v) (ao:Option Addr) (n c:Nat) (w:World)
  (hp:∀ W j v,Kept w W→j < n→Q W j v→Calls Tryz.prog g (#[v] ++ lb) W fun e w' => e = .returned (.bool (p j))∧Kept w w') (h:El1 isSl Q w (.slice ao n c) n) (hbig:n≤9223372036854775807) :
  Calls Tryz.prog 74 #[.slice ao n c,.func (.func g) #[] lb] w fun e w' => Kept w w'∧IdxIs e n p:=by
 have HS:=hid h
 have HQ:=hid hQ
 clear h hQ
 go_enter Tryz.func74,Tryz.ntmps74
 go_wp2
 go_loopw [5,8] (fun _ s8 wr => ∃ kk:Nat,kk≤n∧s8 = .int .i64 kk∧Hid ((∀ j,j < kk→p j = false)∧Kept w wr)) (fun _ s8 _ => n - (intOf s8).toNat)
 case atStart => exact ⟨0,Nat.zero_le _,rfl,(fun j hj => absurd hj (Nat.not_lt_zero _)),Kept.refl w⟩
 case round =>
  obtain ⟨kk,hkk,rfl,BW⟩:=hrel
  by_cases hlt:kk < n
  ·
   have hltz:(kk:Int) < (n:Int):=by omega
   obtain ⟨ao',cap',hv,hx⟩:=El1.kept HQ.out HS.out BW.out.2
   simp only [Value.slice.injEq] at hv
   obtain ⟨rfl,_,rfl⟩:=hv
   obtain ⟨b,off,rfl,hb,hc⟩:=hx (by omega)
   obtain ⟨_,⟨so,sk,sc,rfl⟩,c0,hq0⟩:=hc kk hlt
   have hcall:=hp wr kk _ BW.out.2 hlt hq0
   clear hx hc hp hq0
   have hcall:Calls Tryz.prog g (#[.slice so sk sc] ++ lb) wr fun e w' => e = .returned (.bool (p kk))∧Kept w w':=hcall
   cases hq:p kk with
   | true =>
    rw [hq] at hcall
    have HQ:=hid hq
    clear hq
    go_wp2_with fail
    refine hcall.mono ?_
    rintro e w' ⟨rfl,hb'⟩
    go_wp2
    go_ret
    exact ⟨hb',idx_hit hlt BW.out.1 HQ.out⟩
   | false =>
    rw [hq] at hcall
    have HQ:=hid hq
    clear hq
    go_wp2_with fail
    refine hcall.mono ?_
    rintro e w' ⟨rfl,hb'⟩
    have HB:=hid hb'
    clear hb'
    go_wp2
    go_roundw
    case rel =>
     refine ⟨kk + 1,by omega,by go_num,(show Hid _ from ⟨fun j hj => ?_,HB.out⟩)⟩
     by_cases e:j = kk
     ·
      subst e; exact HQ.out
     ·
      exact BW.out.1 j (by omega)
    case measure => show n - ((kk:Int) + 1).toNat < n - (kk:Int).toNat; omega
  ·
   have hltz:¬ (kk:Int) < (n:Int):=by omega
   have:kk = n:=by omega
   subst this
   go_wp2
   go_ret
   exact ⟨BW.out.2,idx_miss BW.out.1⟩
set_option maxHeartbeats 4000000 in
theorem con_rows (g:Nat) (lb:Array Value) (p:Nat→Bool) (eg:∀ args w,(callFunc g args).run Tryz.prog w = .ok (.enter g args) w) (Q:World→Nat→Value→Prop) (hQ:∀ w w' j v,Kept w w'→Q w j v→Q w' j v) (ao:Option Addr) (n c:Nat) (w:World)
  (hp:∀ W j v,Kept w W→j < n→Q W j v→Calls Tryz.prog g (#[v] ++ lb) W fun e w' => e = .returned (.bool (p j))∧Kept w w') (h:El1 isSl Q w (.slice ao n c) n) (hbig:n≤9223372036854775807) :
  Calls Tryz.prog 44 #[.slice ao n c,.func (.func g) #[] lb] w fun e w' => Kept w w'∧e = .returned (.bool (anyB p n)):=by
 have hc:=idx_rows g lb p eg Q hQ ao n c w hp h hbig
 clear hp h hQ
 go_enter Tryz.func44,Tryz.ntmps44
 go_wp2_with fail
 refine hc.mono ?_
 rintro e w' ⟨hk,i,hi,h1,h2,rfl⟩
 have hA:=any_of_idx hi h1 h2
 generalize (if i = n then (-1:Int) else (i:Int)) = z at hA ⊢
 have HA:=hid (show _ = anyB p n from hA)
 clear hA h1 h2 hi
 go_wp2
 all_goals
  go_ret
  refine ⟨hk,congrArg (fun b => Ending.returned (Value.bool b)) ?_⟩
  rw [← HA.out]
  try simp_all
set_option maxRecDepth 100000 in
set_option maxHeartbeats 4000000 in
theorem idx_tab (g:Nat) (lb:Array Value) (p:Nat→Bool) (eg:∀ args w,(callFunc g args).run Tryz.prog w = .ok (.enter g args) w) (Q:World→Nat→Value→Prop) (hQ:∀ w w' j v,Kept w w'→Q w j v→Q w' j v) (ao:Option Addr) (n c:Nat) (w:World)
  (hp:∀ W j v,Kept w W→j < n→Q W j v→Calls Tryz.prog g (#[v] ++ lb) W fun e w' => e = .returned (.bool (p j))∧Kept w w') (h:El1 isMp Q w (.slice ao n c) n) (hbig:n≤9223372036854775807) :
  Calls Tryz.prog 96 #[.slice ao n c,.func (.func g) #[] lb] w fun e w' => Kept w w'∧IdxIs e n p:=by
 have HS:=hid h
 have HQ:=hid hQ
 clear h hQ
 go_enter Tryz.func96,Tryz.ntmps96
 go_wp2
 go_loopw [5,8] (fun _ s8 wr => ∃ kk:Nat,kk≤n∧s8 = .int .i64 kk∧Hid ((∀ j,j < kk→p j = false)∧Kept w wr)) (fun _ s8 _ => n - (intOf s8).toNat)
 case atStart => exact ⟨0,Nat.zero_le _,rfl,(fun j hj => absurd hj (Nat.not_lt_zero _)),Kept.refl w⟩
 case round =>
  obtain ⟨kk,hkk,rfl,BW⟩:=hrel
  by_cases hlt:kk < n
  ·
   have hltz:(kk:Int) < (n:Int):=by omega
   obtain ⟨ao',cap',hv,hx⟩:=El1.kept HQ.out HS.out BW.out.2
   simp only [Value.slice.injEq] at hv
   obtain ⟨rfl,_,rfl⟩:=hv
   obtain ⟨b,off,rfl,hb,hc⟩:=hx (by omega)
   obtain ⟨_,⟨mo,rfl⟩,c0,hq0⟩:=hc kk hlt
   have hcall:=hp wr kk _ BW.out.2 hlt hq0
   clear hx hc hp hq0
   have hcall:Calls Tryz.prog g (#[.map mo] ++ lb) wr fun e w' => e = .returned (.bool (p kk))∧Kept w w':=hcall
   cases hq:p kk with
   | true =>
    rw [hq] at hcall
    have HQ:=hid hq
    clear hq
    go_wp2_with fail
    refine hcall.mono ?_
    rintro e w' ⟨rfl,hb'⟩
    go_wp2
    go_ret
    exact ⟨hb',idx_hit hlt BW.out.1 HQ.out⟩
   | false =>
    rw [hq] at hcall
    have HQ:=hid hq
    clear hq
    go_wp2_with fail
    refine hcall.mono ?_
    rintro e w' ⟨rfl,hb'⟩
    have HB:=hid hb'
    clear hb'
    go_wp2
    go_roundw
    case rel =>
     refine ⟨kk + 1,by omega,by go_num,(show Hid _ from ⟨fun j hj => ?_,HB.out⟩)⟩
     by_cases e:j = kk
     ·
      subst e; exact HQ.out
     ·
      exact BW.out.1 j (by omega)
    case measure => show n - ((kk:Int) + 1).toNat < n - (kk:Int).toNat; omega
  ·
   have hltz:¬ (kk:Int) < (n:Int):=by omega
   have:kk = n:=by omega
   subst this
   go_wp2
   go_ret
   exact ⟨BW.out.2,idx_miss BW.out.1⟩
set_option maxHeartbeats 4000000 in
theorem con_tab (g:Nat) (lb:Array Value) (p:Nat→Bool) (eg:∀ args w,(callFunc g args).run Tryz.prog w = .ok (.enter g args) w) (Q:World→Nat→Value→Prop) (hQ:∀ w w' j v,Kept w w'→Q w j v→Q w' j v) (ao:Option Addr) (n c:Nat) (w:World)
  (hp:∀ W j v,Kept w W→j < n→Q W j v→Calls Tryz.prog g (#[v] ++ lb) W fun e w' => e = .returned (.bool (p j))∧Kept w w') (h:El1 isMp Q w (.slice ao n c) n) (hbig:n≤9223372036854775807) :
  Calls Tryz.prog 76 #[.slice ao n c,.func (.func g) #[] lb] w fun e w' => Kept w w'∧e = .returned (.bool (anyB p n)):=by
 have hc:=idx_tab g lb p eg Q hQ ao n c w hp h hbig
 clear hp h hQ
 go_enter Tryz.func76,Tryz.ntmps76
 go_wp2_with fail
 refine hc.mono ?_
 rintro e w' ⟨hk,i,hi,h1,h2,rfl⟩
 have hA:=any_of_idx hi h1 h2
 generalize (if i = n then (-1:Int) else (i:Int)) = z at hA ⊢
 have HA:=hid (show _ = anyB p n from hA)
 clear hA h1 h2 hi
 go_wp2
 all_goals
  go_ret
  refine ⟨hk,congrArg (fun b => Ending.returned (Value.bool b)) ?_⟩
  rw [← HA.out]
  try simp_all
theorem len_lt {l:List Nat} (hb:M.Bd l) (ht:M.Tr l) (n:Nat):l.length≤n ↔ M.val l < 4294967296 ^ n:=by
 constructor
 ·
  intro h
  have h1:=M.val_lt hb
  have h2:4294967296 ^ l.length≤4294967296 ^ n:=Nat.pow_le_pow_right (by decide) h
  omega
 ·
  intro h
  rcases Nat.lt_or_ge n l.length with h1 | h1
  ·
   exfalso
   have h3:=M.val_ge ht (fun e => by rw [e] at h1; simp at h1)
   have h4:4294967296 ^ n≤4294967296 ^ (l.length - 1):=Nat.pow_le_pow_right (by decide) (by omega)
   omega
  ·
   exact h1
theorem fits_zi (s:Bool) (ao:Option Addr) (k cap:Nat) (z:Int) (limbs:Nat) (w:World) (h:ZI w s (.slice ao k cap) z) :
  Calls Tryz.prog 70 #[.agg #[.bool s,.slice ao k cap],.int .i64 (limbs:Int)] w fun e w' => e = .returned (.bool (!Ba.wideZ limbs z))∧Kept w w':=by
 obtain ⟨l,h1,h2,rfl⟩:=h
 have e1:=h1.len
 have e2:=h2.len
 have:=fits_any true s ao k cap l (limbs:Int) w h1 (by omega) (.inl ⟨rfl,R.of_right h2⟩)
 have e3:(true && decide ((k:Int)≤(limbs:Int))) = !Ba.wideZ limbs (M.int s l):=by
  unfold Ba.wideZ
  rw [M.natAbs_int,Bool.true_and,← decide_not,decide_eq_decide,Nat.not_le,← len_lt h1.1 h2.tr,e1]
  omega
 rw [e3] at this
 exact this
theorem enter_wide (args:Array Value) (w:World):(callFunc 91 args).run Tryz.prog w = .ok (.enter 91 args) w:=by
 simp
set_option maxRecDepth 100000 in
set_option maxHeartbeats 4000000 in
theorem wide1_any (s:Bool) (ao:Option Addr) (k cap:Nat) (z:Int) (limbs p:Nat) (w:World) (h:ZI w s (.slice ao k cap) z) (hp:p < w.heap.size) (hc:w.cell? ⟨p,0,none⟩ = some (.int .i64 (limbs:Int))) :
  Calls Tryz.prog 91 #[.agg #[.bool s,.slice ao k cap],.pointer (some ⟨p,0,none⟩)] w fun e w' => e = .returned (.bool (Ba.wideZ limbs z))∧Kept w w':=by
 have HC:=hid (fun (W:World) (K:Kept w W) => fits_zi s ao k cap z limbs W (h.kept K))
 generalize Ba.wideZ limbs z = bb at HC ⊢
 have HP:=hid (fun (W:World) (K:Kept w W) => (K.cell (p:=⟨p,0,none⟩) hp).trans hc)
 clear h hc hp
 have br1:=RowL.alloc 37 w [.bool s,.slice ao k cap]
 have bk1:=(Kept.refl w).alloc (.cells #[.bool s,.slice ao k cap] 37)
 have bs1:=alloc_sz w (.cells #[.bool s,.slice ao k cap] 37)
 have sN:((w.alloc (.cells #[.bool s,.slice ao k cap] 37))).heap.size = w.heap.size + 1:=by rw [bs1]
 clear bs1
 go_enter Tryz.func91,Tryz.ntmps91
 go_upto_region 1 with fail
 generalize w.alloc (.cells #[.bool s,.slice ao k cap] 37) = W1 at bk1 br1 sN ⊢
 obtain ⟨p1,hp1⟩:∃ p,p = w.heap.size:=⟨_,rfl⟩
 rw [← hp1] at br1 ⊢
 have HV:=hid (show ∀ V,Kept W1 V→(RowL 37 V p1 [.bool s,.slice ao k cap])∧Kept w V from fun V K => ⟨br1.kept K,bk1.trans K⟩)
 have HVs:=hid (show (p1 = w.heap.size)∧W1.heap.size = w.heap.size + 1 from ⟨hp1,sN⟩)
 clear bk1 br1 hp1 sN
 have c0:=(HV.out _ (Kept.refl W1)).1.cell 0 _
 have c1:=(HV.out _ (Kept.refl W1)).1.cell 1 _
 have c2:=HP.out _ (HV.out _ (Kept.refl W1)).2
 go_wp2_with fail
 refine (HC.out W1 (HV.out _ (Kept.refl W1)).2).mono ?_
 rintro e w1 ⟨rfl,hk⟩
 have HK:=hid ((HV.out _ hk).2)
 clear hk
 go_wp2_with fail
 go_ret
 exact ⟨by simp,HK.out⟩
abbrev IL (zs:Nat→Int):World→Value→Nat→Prop:=IsL (fun w j s v => ZI w s v (zs j))
theorem il_kept {zs:Nat→Int} {w w':World} {v:Value} {n:Nat} (h:IL zs w v n) (k:Kept w w'):IL zs w' v n:=IsL.kept (fun _ _ _ _ _ k h => h.kept k) h k
set_option maxRecDepth 100000 in
set_option maxHeartbeats 4000000 in
theorem widel_any (zs:Nat→Int) (ao:Option Addr) (n cap limbs:Nat) (w:World) (h:IL zs w (.slice ao n cap) n) (hn:n≤1000000) :
  Calls Tryz.prog 64 #[.slice ao n cap,.int .i64 (limbs:Int)] w fun e w' => Kept w w'∧e = .returned (.bool (anyB (fun j => Ba.wideZ limbs (zs j)) n)):=by
 have r:=RowL.alloc 3 w [.int .i64 (limbs:Int)]
 have k:=(Kept.refl w).alloc (.cells #[.int .i64 (limbs:Int)] 3)
 go_enter Tryz.func64,Tryz.ntmps64
 go_upto_region 1 with fail
 generalize w.alloc (.cells #[.int .i64 (limbs:Int)] 3) = W at r k ⊢
 obtain ⟨p,hp⟩:∃ p,p = w.heap.size:=⟨_,rfl⟩
 rw [← hp] at r ⊢
 have hc:=con_ints 91 #[.pointer (some ⟨p,0,none⟩)] (fun j => Ba.wideZ limbs (zs j)) enter_wide (fun w j s v => ZI w s v (zs j)) (fun _ _ _ _ _ k h => h.kept k) ao n cap W (fun V j s v K _ hq => by
  have hr:=r.kept K
  have hq':=hq
  obtain ⟨l,h1,h2⟩:=hq'
  obtain ⟨h3,so,sc,rfl,h4⟩:=h1
  have:=wide1_any s so l.length sc (zs j) limbs p V hq hr.lt (hr.cell 0 _)
  exact this.mono fun e w' ⟨a,b⟩ => ⟨a,K.trans b⟩) (il_kept h k) (by omega)
 have HC:=hid hc
 have HK:=hid k
 clear hc r hp k
 go_wp2_with fail
 refine HC.out.mono ?_
 rintro e w1 ⟨hk,rfl⟩
 have HK:=hid (HK.out.trans hk)
 clear hk
 go_wp2_with fail
 go_ret
 exact ⟨HK.out,rfl⟩
theorem enter_allr (args:Array Value) (w:World):(callFunc 61 args).run Tryz.prog w = .ok (.enter 61 args) w:=by
 simp
def ZQ (b:Nat→Bool):World→Nat→Bool→Value→Prop:=fun w j s v => ∃ l,Sl w v l∧l.length≤9223372036854775807∧(b j = true ↔ R s l)
theorem ZQ.kept {b:Nat→Bool}:∀ (w w':World) (j:Nat) (s:Bool) (v:Value),Kept w w'→ZQ b w j s v→ZQ b w' j s v:=by
 rintro w w' j s v k ⟨l,h1,h2⟩
 exact ⟨l,h1.kept k,h2⟩
set_option maxRecDepth 100000 in
set_option maxHeartbeats 4000000 in
theorem allr1_any (s:Bool) (v:Value) (l:List Nat) (bb:Bool) (w:World) (h:Sl w v l) (hl:l.length≤9223372036854775807) (hb:bb = true ↔ R s l) :
  Calls Tryz.prog 61 #[.agg #[.bool s,v]] w fun e w' => e = .returned (.bool (!bb))∧Kept w w':=by
 have HC:=hid (show ∀ W,Kept w W→Calls Tryz.prog 62 #[.agg #[.bool s,v]] W fun e w' => e = .returned (.int .i64 (if bb = true then 0 else 10))∧Kept W w' from fun W K => by
  by_cases hr:R s l
  ·
   rw [if_pos (hb.2 hr)]
   exact check_yes s v l W (h.kept K) hr
  ·
   rw [if_neg (fun e => hr (hb.1 e))]
   exact check_no s v l W (h.kept K) (by omega) hr)
 obtain ⟨_,ao,cap,rfl,_⟩:=h
 generalize l.length = k at HC ⊢
 clear hb hl
 have br1:=RowL.alloc 37 w [.bool s,.slice ao k cap]
 have bk1:=(Kept.refl w).alloc (.cells #[.bool s,.slice ao k cap] 37)
 have bs1:=alloc_sz w (.cells #[.bool s,.slice ao k cap] 37)
 have sN:((w.alloc (.cells #[.bool s,.slice ao k cap] 37))).heap.size = w.heap.size + 1:=by rw [bs1]
 clear bs1
 go_enter Tryz.func61,Tryz.ntmps61
 go_upto_region 1 with fail
 generalize w.alloc (.cells #[.bool s,.slice ao k cap] 37) = W1 at bk1 br1 sN ⊢
 obtain ⟨p1,hp1⟩:∃ p,p = w.heap.size:=⟨_,rfl⟩
 rw [← hp1] at br1 ⊢
 have HV:=hid (show ∀ V,Kept W1 V→(RowL 37 V p1 [.bool s,.slice ao k cap])∧Kept w V from fun V K => ⟨br1.kept K,bk1.trans K⟩)
 have HVs:=hid (show (p1 = w.heap.size)∧W1.heap.size = w.heap.size + 1 from ⟨hp1,sN⟩)
 clear bk1 br1 hp1 sN
 have c0:=(HV.out _ (Kept.refl W1)).1.cell 0 _
 have c1:=(HV.out _ (Kept.refl W1)).1.cell 1 _
 have hc:=HC.out W1 (HV.out _ (Kept.refl W1)).2
 cases bb with
 | true =>
  have hc:Calls Tryz.prog 62 #[.agg #[.bool s,.slice ao k cap]] W1 fun e w' => e = .returned (.int .i64 0)∧Kept W1 w':=hc
  go_wp2_with fail
  refine hc.mono ?_
  rintro e w1 ⟨rfl,hk⟩
  have HK:=hid ((HV.out _ hk).2)
  clear hk
  go_wp2_with fail
  go_ret
  exact ⟨rfl,HK.out⟩
 | false =>
  have hc:Calls Tryz.prog 62 #[.agg #[.bool s,.slice ao k cap]] W1 fun e w' => e = .returned (.int .i64 10)∧Kept W1 w':=hc
  go_wp2_with fail
  refine hc.mono ?_
  rintro e w1 ⟨rfl,hk⟩
  have HK:=hid ((HV.out _ hk).2)
  clear hk
  go_wp2_with fail
  go_ret
  exact ⟨rfl,HK.out⟩
set_option maxRecDepth 100000 in
set_option maxHeartbeats 4000000 in
theorem allr_any (b:Nat→Bool) (ao:Option Addr) (n cap:Nat) (w:World) (h:IsL (ZQ b) w (.slice ao n cap) n) (hn:n≤1000000) :
  Calls Tryz.prog 33 #[.slice ao n cap] w fun e w' => Kept w w'∧e = .returned (.bool (!anyB (fun j => !b j) n)):=by
 have hc:=con_ints 61 #[] (fun j => !b j) enter_allr (ZQ b) ZQ.kept ao n cap w (fun V j s v K _ hq => by
  obtain ⟨l,h1,h2,h3⟩:=hq
  exact (allr1_any s v l (b j) V h1 h2 h3).mono fun e w' ⟨a,b⟩ => ⟨a,K.trans b⟩) h (by omega)
 have HC:=hid hc
 clear hc h
 go_enter Tryz.func33,Tryz.ntmps33
 go_wp2_with fail
 refine HC.out.mono ?_
 rintro e w1 ⟨hk,rfl⟩
 have HK:=hid hk
 clear hk
 go_wp2_with fail
 go_ret
 exact ⟨HK.out,by simp⟩
set_option maxRecDepth 100000 in
set_option maxHeartbeats 8000000 in
theorem put_any {B:Nat} (b n k:Nat) (f:Nat→Int) (s:Bool) (ao:Option Addr) (j cap:Nat) (z:Int) (w:World) (h:NumM B w b n f) (hz:ZN B w s (.slice ao j cap) z) (hk:k < n) (hf:f k = 0) :
  Calls Tryz.prog 84 #[.map (some b),.int .i64 (k:Int),.agg #[.bool s,.slice ao j cap]] w fun e w' => e = .returned (.tuple #[])∧NumM B w' b n (upd f k z)∧KX (fun i => i = b) w w':=by
 have HN:=hid (fun (W:World) (K:Kept w W) => And.intro (h.kept K) (hz.kept K))
 have HZ:=hid (ZI.zero hz.zi)
 have HF:=hid (And.intro hk hf)
 clear h hz hk hf
 have hj:=hid (show ∀ W,Calls Tryz.prog 75 #[.agg #[.bool s,.slice ao j cap]] W fun e w' => Kept W w'∧e = .returned (.bool (decide (j = 0))) from fun W => nought_any s ao j cap W)
 have br1:=RowL.alloc 37 w [.bool s,.slice ao j cap]
 have bk1:=(Kept.refl w).alloc (.cells #[.bool s,.slice ao j cap] 37)
 have bs1:=alloc_sz w (.cells #[.bool s,.slice ao j cap] 37)
 have sN:((w.alloc (.cells #[.bool s,.slice ao j cap] 37))).heap.size = w.heap.size + 1:=by rw [bs1]
 clear bs1
 go_enter Tryz.func84,Tryz.ntmps84
 go_upto_region 1 with fail
 generalize w.alloc (.cells #[.bool s,.slice ao j cap] 37) = W1 at bk1 br1 sN ⊢
 obtain ⟨p1,hp1⟩:∃ p,p = w.heap.size:=⟨_,rfl⟩
 rw [← hp1] at br1 ⊢
 have HV:=hid (show ∀ V,Kept W1 V→(RowL 37 V p1 [.bool s,.slice ao j cap])∧Kept w V from fun V K => ⟨br1.kept K,bk1.trans K⟩)
 have HVs:=hid (show (p1 = w.heap.size)∧W1.heap.size = w.heap.size + 1 from ⟨hp1,sN⟩)
 clear bk1 br1 hp1 sN
 have c0:=(HV.out _ (Kept.refl W1)).1.cell 0 _
 have c1:=(HV.out _ (Kept.refl W1)).1.cell 1 _
 have hc:=hj.out W1
 by_cases h0:j = 0
 ·
  rw [decide_eq_true h0] at hc
  have H0:=hid h0
  clear h0
  go_wp2_with fail
  refine hc.mono ?_
  rintro e w1 ⟨hk,rfl⟩
  have HK:=hid ((HV.out _ hk).2)
  clear hk
  go_wp2_with fail
  go_end0
  have e0:upd f k z = f:=funext fun i => by
   unfold upd
   split
   ·
    next e => rw [e,HF.out.2,HZ.out.1 H0.out]
   ·
    rfl
  refine ⟨?_,?_,KX.of HK.out⟩
  ·
   rfl
  ·
   rw [e0]; exact (HN.out _ HK.out).1
 ·
  rw [decide_eq_false h0] at hc
  have H0:=hid h0
  clear h0
  go_wp2_with fail
  refine hc.mono ?_
  rintro e w1 ⟨hk,rfl⟩
  have d0:=(HV.out _ hk).1.cell 0 _
  have d1:=(HV.out _ hk).1.cell 1 _
  have hN:=HN.out _ (HV.out _ hk).2
  obtain ⟨w2,hrun,hM,hx,hs⟩:=hN.1.store HF.out.1 (fun e => H0.out (HZ.out.2 e)) hN.2.nv
  have HR:=hid (And.intro hM (And.intro hx (HV.out _ hk).2))
  clear c0 c1 hN hM hx hk hs
  go_wp2_with fail
  go_end0
  exact ⟨rfl,HR.out.1,(KX.of HR.out.2.2).trans HR.out.2.1⟩
end Bp
end Go.Proofs.YtdcgdpbgnijnpaaGreat

namespace Go.Proofs.YtdcgdpbgnijnpaaGreat
open Go.RowKit
open V (RowL RowL.alloc RowL.lt RowL.cell RowL.fz RowL.kept RowL.block RowL.set RowL.far)
open Sp (hid)
open Bm (ZI ZI.kept)
open Sy (alloc_sz)
namespace Bp
def quo0 (x y:Int):Int:=if y ∣ x then x / y else 0
theorem quo0_is {x y:Int}:quo0 x y * y = x ∨ (¬ y ∣ x∧quo0 x y = 0):=by
 unfold quo0
 by_cases h:y ∣ x
 ·
  rw [if_pos h]; exact .inl (Int.ediv_mul_cancel h)
 ·
  rw [if_neg h]; exact .inr ⟨h,rfl⟩
theorem quo0_eq {x y z:Int} (hy:y ≠ 0) (h:z * y = x):quo0 x y = z:=by
 rcases quo0_is (x:=x) (y:=y) with e | ⟨e,_⟩
 ·
  exact Int.eq_of_mul_eq_mul_right hy (e.trans h.symm)
 ·
  exact absurd ⟨z,by rw [← h,Int.mul_comm]⟩ e
set_option maxRecDepth 100000 in
set_option maxHeartbeats 8000000 in
theorem over0_any (m n:Bool) (ao bo:Option Addr) (k cap j cbp:Nat) (x y z:Int) (w:World) (ha:ZI w m (.slice ao k cap) x) (hb:ZI w n (.slice bo j cbp) y) (hy:y ≠ 0) (hz:z * y = x ∨ (¬ y ∣ x∧z = 0)) :
  Calls Tryz.prog 69 #[.agg #[.bool m,.slice ao k cap],.agg #[.bool n,.slice bo j cbp]] w (TellsZ w (z)):=by
 have HC:=hid (show ∀ W,Kept w W→Calls Tryz.prog 95 #[.agg #[.bool m,.slice ao k cap],.agg #[.bool n,.slice bo j cbp]] W fun e w' => Kept W w'∧∃ s ro r rc c,e = .returned (.tuple #[.agg #[.bool s,.slice ro r rc],.int .i64 c])∧ZN W.heap.size w' s (.slice ro r rc) (z) from fun W K => by
   obtain ⟨a,h1,h2,e1⟩:=ha
   obtain ⟨b,g1,g2,e2⟩:=hb
   have hb0:0 < b.length:=by
    rcases Nat.eq_zero_or_pos b.length with e3 | e3
    ·
     exfalso
     have:b = []:=List.eq_nil_of_length_eq_zero e3
     subst this
     apply hy
     rw [← e2]
     cases n <;> rfl
    ·
     exact e3
   have hdv:(M.val b ∣ M.val a) ↔ y ∣ x:=by
    rw [← M.natAbs_int m a,← M.natAbs_int n b,e1,e2,Int.natAbs_dvd_natAbs]
   refine (exact_any m n _ _ a b W (h1.kept K) (g1.kept K) (R.of_right h2) (R.of_right g2) hb0).mono ?_
   rintro e w' ⟨hk,⟨h6,s,ro,r,rc,l,rfl,h3,h4,h5⟩ | ⟨h6,rfl⟩⟩
   ·
    rcases hz with hz | ⟨hz,_⟩
    ·
     refine ⟨hk,s,ro,r,rc,0,rfl,l,h3,h4,?_⟩
     rw [e1,e2,← hz] at h5
     exact Int.eq_of_mul_eq_mul_right hy h5
    ·
     exact absurd (hdv.1 h6) hz
   ·
    rcases hz with hz | ⟨_,hz⟩
    ·
     exact absurd (hdv.2 ⟨z,by rw [← hz,Int.mul_comm]⟩) h6
    ·
     subst hz
     exact ⟨hk,false,none,0,0,12,rfl,[],⟨(fun _ h => by cases h),.inl ⟨rfl,rfl⟩⟩,⟨(fun _ h => by cases h),.inl rfl,by decide,fun _ => rfl⟩,rfl⟩)
 clear ha hb hz hy
 obtain ⟨Z,hZ⟩:∃ Z,Z = z:=⟨_,rfl⟩
 rw [← hZ] at HC ⊢
 clear hZ
 have br1:=RowL.alloc 37 w [.bool m,.slice ao k cap]
 have bk1:=(Kept.refl w).alloc (.cells #[.bool m,.slice ao k cap] 37)
 have bs1:=alloc_sz w (.cells #[.bool m,.slice ao k cap] 37)
 have br2:=RowL.alloc 37 (w.alloc (.cells #[.bool m,.slice ao k cap] 37)) [.bool n,.slice bo j cbp]
 have bk2:=(Kept.refl (w.alloc (.cells #[.bool m,.slice ao k cap] 37))).alloc (.cells #[.bool n,.slice bo j cbp] 37)
 have bs2:=alloc_sz (w.alloc (.cells #[.bool m,.slice ao k cap] 37)) (.cells #[.bool n,.slice bo j cbp] 37)
 have br3:=RowL.alloc 37 ((w.alloc (.cells #[.bool m,.slice ao k cap] 37)).alloc (.cells #[.bool n,.slice bo j cbp] 37)) [.bool false,.slice none 0 0]
 have bk3:=(Kept.refl ((w.alloc (.cells #[.bool m,.slice ao k cap] 37)).alloc (.cells #[.bool n,.slice bo j cbp] 37))).alloc (.cells #[.bool false,.slice none 0 0] 37)
 have bs3:=alloc_sz ((w.alloc (.cells #[.bool m,.slice ao k cap] 37)).alloc (.cells #[.bool n,.slice bo j cbp] 37)) (.cells #[.bool false,.slice none 0 0] 37)
 rw [bs2,bs1] at br3
 rw [bs1] at br2
 have sN:((((w.alloc (.cells #[.bool m,.slice ao k cap] 37)).alloc (.cells #[.bool n,.slice bo j cbp] 37)).alloc (.cells #[.bool false,.slice none 0 0] 37))).heap.size = w.heap.size + 1 + 1 + 1:=by rw [bs3,bs2,bs1]
 have hs3z:((w.alloc (.cells #[.bool m,.slice ao k cap] 37)).alloc (.cells #[.bool n,.slice bo j cbp] 37)).heap.size + 1 = (((w.alloc (.cells #[.bool m,.slice ao k cap] 37)).alloc (.cells #[.bool n,.slice bo j cbp] 37)).alloc (.cells #[.bool false,.slice none 0 0] 37)).heap.size:=bs3.symm
 clear bs1 bs2 bs3
 go_enter Tryz.func69,Tryz.ntmps69
 go_upto_region 1 with fail
 generalize w.alloc (.cells #[.bool m,.slice ao k cap] 37) = W1 at bk1 bk2 bk3 br1 br2 br3 sN hs3z ⊢
 generalize W1.alloc (.cells #[.bool n,.slice bo j cbp] 37) = W2 at bk2 bk3 br2 br3 sN hs3z ⊢
 generalize W2.alloc (.cells #[.bool false,.slice none 0 0] 37) = W3 at bk3 br3 sN hs3z ⊢
 obtain ⟨p3,hp3⟩:∃ p,p = w.heap.size + 1 + 1:=⟨_,rfl⟩
 obtain ⟨p2,hp2⟩:∃ p,p = w.heap.size + 1:=⟨_,rfl⟩
 obtain ⟨p1,hp1⟩:∃ p,p = w.heap.size:=⟨_,rfl⟩
 rw [← hp3] at br3 ⊢
 rw [← hp2] at br2 ⊢
 rw [← hp1] at br1 ⊢
 have HV:=hid (show ∀ V,Kept W3 V→(RowL 37 V p1 [.bool m,.slice ao k cap]∧RowL 37 V p2 [.bool n,.slice bo j cbp]∧RowL 37 V p3 [.bool false,.slice none 0 0])∧Kept w V from fun V K => ⟨⟨br1.kept (bk2.trans (bk3.trans K)),br2.kept (bk3.trans K),br3.kept K⟩,bk1.trans (bk2.trans (bk3.trans K))⟩)
 have HVa:=hid (show ∀ V,Kept W2 V→(RowL 37 V p1 [.bool m,.slice ao k cap]∧RowL 37 V p2 [.bool n,.slice bo j cbp])∧Kept w V from fun V K => ⟨⟨br1.kept (bk2.trans K),br2.kept K⟩,bk1.trans (bk2.trans K)⟩)
 have HVb:=hid bk3
 have HVc:=hid hs3z
 have HVs:=hid (show (p1 = w.heap.size∧p2 = w.heap.size + 1∧p3 = w.heap.size + 1 + 1)∧W3.heap.size = w.heap.size + 1 + 1 + 1 from ⟨⟨hp1,hp2,hp3⟩,sN⟩)
 clear bk1 br1 hp1 bk2 br2 hp2 bk3 br3 hp3 sN hs3z
 have c0:=(HV.out _ (Kept.refl W3)).1.1.cell 0 _
 have c1:=(HV.out _ (Kept.refl W3)).1.1.cell 1 _
 have c2:=(HV.out _ (Kept.refl W3)).1.2.1.cell 0 _
 have c3:=(HV.out _ (Kept.refl W3)).1.2.1.cell 1 _
 go_wp2_with fail
 refine (HC.out W3 (HV.out _ (Kept.refl W3)).2).mono ?_
 rintro e w1 ⟨hk,s,ro,r,rc,c,rfl,hR⟩
 clear c0 c1 c2 c3
 have kB:=hk.alloc (.cells #[.bool s,.slice ro r rc] 37)
 have rB:=RowL.alloc 37 w1 [.bool s,.slice ro r rc]
 have hR:=hR.kept ((Kept.refl w1).alloc (.cells #[.bool s,.slice ro r rc] 37))
 go_upto_region 2 with fail
 generalize w1.alloc (.cells #[.bool s,.slice ro r rc] 37) = U at kB rB hR ⊢
 obtain ⟨q,hq⟩:∃ q,q = w1.heap.size:=⟨_,rfl⟩
 rw [← hq] at rB ⊢
 clear hq
 have HU:=hid (And.intro kB (And.intro hR hk))
 have c0:=rB.cell 0 _
 have c1:=rB.cell 1 _
 have d0:=(HV.out _ kB).1.2.2.cell 0 _
 have d1:=(HV.out _ kB).1.2.2.cell 1 _
 have f0:=(HV.out _ kB).1.2.2.fz 0
 have f1:=(HV.out _ kB).1.2.2.fz 1
 clear kB hR hk rB
 go_wp2_with fail
 refine bodyPost_ret (v:=.agg #[.bool s,.slice ro r rc]) (by simp [results,Tryz.results69,go_sem,d0,d1]) rfl ⟨?_,s,ro,r,rc,rfl,?_⟩
 ·
  have hs:=HVs.out
  exact ((HV.out _ HU.out.1).2.setCell (by simp; omega) _).setCell (by simp; omega) _
 ·
  have hs:=HVs.out
  exact ((HU.out.2.1.other (by simp; omega) _).other (by simp; omega) _).mono (by omega)
end Bp
end Go.Proofs.YtdcgdpbgnijnpaaGreat

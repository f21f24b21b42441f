/- Lemmas. -/
import Derived.Test.YthfbfbfambbkaaaGreatDoorGal
import Derived.Deep.RegionHeld3
namespace Go.Proofs.YthfbfbfambbkaaaGreatDoor
open Go.RowKit
namespace F
set_option maxHeartbeats 1000000 in
theorem same_r (m n:Bool) (va vb vc vd:Value) (a b:List Nat) (w:World) (ha:Sl w va a) (hb:Sl w vb b) (hc:Sl w vc a) (hd:Sl w vd b) (hla:a.length<=1000) (hlb:b.length<=1000) :
  Calls Tryz.prog 16 #[.agg #[.bool m,va,.bool n,vb],.agg #[.bool m,vc,.bool n,vd]] w fun e w' => e = .returned (.bool true)/\Kept w w':=by
 have HA:Hid (Sl w va a/\Sl w vb b/\Sl w vc a/\Sl w vd b/\a.length<=1000/\b.length<=1000):=⟨ha,hb,hc,hd,hla,hlb⟩
 clear ha hb hc hd hla hlb
 have K2:∀ x y,Kept w ((w.alloc x).alloc y):=fun x y => ((Kept.refl w).alloc x).alloc y
 go_enter Tryz.func16,Tryz.ntmps16
 go_wp2_with fail
 refine (same_yes m m va vc a a _ (HA.out.1.kept (K2 _ _)) (HA.out.2.2.1.kept (K2 _ _)) (by have:=HA.out.2.2.2.2.1; omega) rfl rfl).mono ?_
 rintro e w1 ⟨rfl,hk⟩
 have HK:Hid (Kept w w1):=(K2 _ _).trans hk
 have c2:w1.cell? ⟨w.heap.size,2,none⟩ = some (.bool n):=by rw [hk.cells _ _ (by simp; omega)]; simp
 have c3:w1.cell? ⟨w.heap.size,3,none⟩ = some vb:=by rw [hk.cells _ _ (by simp; omega)]; simp
 have d2:w1.cell? ⟨w.heap.size + 1,2,none⟩ = some (.bool n):=by rw [hk.cells _ _ (by simp)]; simp
 have d3:w1.cell? ⟨w.heap.size + 1,3,none⟩ = some vd:=by rw [hk.cells _ _ (by simp)]; simp
 clear hk K2
 go_wp2_with fail
 refine (same_yes n n vb vd b b _ (HA.out.2.1.kept HK.out) (HA.out.2.2.2.1.kept HK.out) (by have:=HA.out.2.2.2.2.2; omega) rfl rfl).mono ?_
 rintro e w2 ⟨rfl,hk2⟩
 have HK2:Hid (Kept w w2):=HK.out.trans hk2
 clear hk2
 go_wp2
 go_ret
 exact ⟨rfl,HK2.out⟩
set_option maxHeartbeats 1000000 in
theorem nan_r (x:Int) (w:World):Calls Tryz.prog 100 #[.int .i64 x] w fun e w' => e = .returned (.bool false)/\Kept w w':=by
 go_enter Tryz.func100,Tryz.ntmps100
 go_wp2
 go_ret
 exact ⟨rfl,Kept.refl w⟩
set_option maxRecDepth 100000 in
set_option maxHeartbeats 1000000 in
theorem Compare_r (x y:Int) (w:World):Calls Tryz.prog 60 #[.int .i64 x,.int .i64 y] w fun e w' => e = .returned (.int .i64 (isgn x y))/\Kept w w':=by
 obtain ⟨z,HX⟩:∃ z,Hid (z = isgn x y):=⟨_,rfl⟩
 rw [<- HX.out]
 rcases Int.lt_trichotomy x y with h | rfl | h
 all_goals
  go_enter Tryz.func60,Tryz.ntmps60
  go_wp2_with fail
  refine (nan_r _ _).mono ?_
  rintro e w1 ⟨rfl,hk1⟩
  have HK1:=hk1
  clear hk1
  go_wp2_with fail
  refine (nan_r _ _).mono ?_
  rintro e w2 ⟨rfl,hk2⟩
  have HK:Hid (Kept w w2):=HK1.trans hk2
  clear hk2 HK1
  go_wp2
  go_ret
  exact ⟨ret_i64 (by rw [HX.out]; unfold isgn; split <;> (try split) <;> omega),HK.out⟩
set_option maxHeartbeats 2000000 in
theorem opposite_r (m n:Bool) (aoa aob:Option Addr) (ka ca kb cb:Nat) (w:World) :
  Calls Tryz.prog 62 #[.agg #[.bool m,.slice aoa ka ca,.bool n,.slice aob kb cb]] w fun e w' => e = .returned (.agg #[.bool (!m && decide (0 < ka)),.slice aoa ka ca,.bool n,.slice aob kb cb])/\Kept w w':=by
 obtain ⟨s,hs⟩:∃ s,s = (!m && decide (0 < ka)):=⟨_,rfl⟩
 rw [<- hs]
 have HS:Hid (s = (!m && decide (0 < ka))):=hs
 clear hs
 have K2:∀ x y,Kept w ((w.alloc x).alloc y):=fun x y => ((Kept.refl w).alloc x).alloc y
 go_enter Tryz.func62,Tryz.ntmps62
 go_wp2_with fail
 have hB:∀ W,Kept ((w.alloc (.cells #[.bool m,.slice aoa ka ca,.bool n,.slice aob kb cb] 29)).alloc (.cells #[.bool false,.slice none 0 0,.bool false,.slice none 0 0] 29)) W->(W.cell? ⟨w.heap.size,0,none⟩ = some (.bool m)/\W.cell? ⟨w.heap.size,1,none⟩ = some (.slice aoa ka ca)/\W.cell? ⟨w.heap.size,2,none⟩ = some (.bool n)/\W.cell? ⟨w.heap.size,3,none⟩ = some (.slice aob kb cb))/\(W.cell? ⟨w.heap.size + 1,0,none⟩ = some (.bool false)/\W.cell? ⟨w.heap.size + 1,1,none⟩ = some (.slice none 0 0)/\W.cell? ⟨w.heap.size + 1,2,none⟩ = some (.bool false)/\W.cell? ⟨w.heap.size + 1,3,none⟩ = some (.slice none 0 0))/\∀ o,W.frozen? ⟨w.heap.size + 1,o,none⟩ = false:=fun W hk => by
  refine ⟨⟨?_,?_,?_,?_⟩,⟨?_,?_,?_,?_⟩,fun o => ?_⟩
  ·
   rw [hk.cells _ _ (by simp; omega)]; simp
  ·
   rw [hk.cells _ _ (by simp; omega)]; simp
  ·
   rw [hk.cells _ _ (by simp; omega)]; simp
  ·
   rw [hk.cells _ _ (by simp; omega)]; simp
  ·
   rw [hk.cells _ _ (by simp)]; simp
  ·
   rw [hk.cells _ _ (by simp)]; simp
  ·
   rw [hk.cells _ _ (by simp)]; simp
  ·
   rw [hk.cells _ _ (by simp)]; simp
  ·
   rw [hk.frozens (w.heap.size + 1) o (by simp)]; exact World.frozen?_alloc_at _ _ _ _ (by simp)
 have HB:Hid (∀ W,Kept ((w.alloc (.cells #[.bool m,.slice aoa ka ca,.bool n,.slice aob kb cb] 29)).alloc (.cells #[.bool false,.slice none 0 0,.bool false,.slice none 0 0] 29)) W->(W.cell? ⟨w.heap.size,0,none⟩ = some (.bool m)/\W.cell? ⟨w.heap.size,1,none⟩ = some (.slice aoa ka ca)/\W.cell? ⟨w.heap.size,2,none⟩ = some (.bool n)/\W.cell? ⟨w.heap.size,3,none⟩ = some (.slice aob kb cb))/\(W.cell? ⟨w.heap.size + 1,0,none⟩ = some (.bool false)/\W.cell? ⟨w.heap.size + 1,1,none⟩ = some (.slice none 0 0)/\W.cell? ⟨w.heap.size + 1,2,none⟩ = some (.bool false)/\W.cell? ⟨w.heap.size + 1,3,none⟩ = some (.slice none 0 0))/\∀ o,W.frozen? ⟨w.heap.size + 1,o,none⟩ = false):=hB
 have HK:Hid (Kept w ((w.alloc (.cells #[.bool m,.slice aoa ka ca,.bool n,.slice aob kb cb] 29)).alloc (.cells #[.bool false,.slice none 0 0,.bool false,.slice none 0 0] 29))):=K2 _ _
 clear hB K2
 go_region_held3 (fun w' => w'.cell? ⟨w.heap.size,0,none⟩ = some (.bool m)/\w'.cell? ⟨w.heap.size,1,none⟩ = some (.slice aoa ka ca)/\w'.cell? ⟨w.heap.size,2,none⟩ = some (.bool n)/\w'.cell? ⟨w.heap.size,3,none⟩ = some (.slice aob kb cb)) (go_keep) (first | (go_at_call 103; refine (signed_r (!m) m aoa ka ca _).mono ?_; rw [<- HS.out]; rintro e w1 ⟨rfl,hk1⟩; obtain ⟨⟨hA0,hA1,hA2,hA3⟩,⟨hR0,hR1,hR2,hR3⟩,hf⟩:=HB.out _ ((Kept.refl _).drew.trans hk1); have HK1:Hid (Kept w w1):=HK.out.drew.trans hk1))
 go_wp2
 refine bodyPost_ret (v:=.agg #[.bool s,.slice aoa ka ca,.bool n,.slice aob kb cb]) (by simp [results,Tryz.results62,go_sem,hR0,hR1,hR2,hR3]) rfl ⟨rfl,?_⟩
 exact (((HK1.out.setCell (by show w.heap.size<=w.heap.size + 1; omega) _).setCell (by show w.heap.size<=w.heap.size + 1; omega) _).setCell (by show w.heap.size<=w.heap.size + 1; omega) _).setCell (by show w.heap.size<=w.heap.size + 1; omega) _
end F
end Go.Proofs.YthfbfbfambbkaaaGreatDoor

/- Lemmas. -/
import Derived.Test.YtembglnonhlnkaaGreatDoorGan
import Derived.Deep.RegionHeld3
namespace Go.Proofs.YtembglnonhlnkaaGreatDoor
open Go.RowKit
namespace F
set_option maxHeartbeats 2000000 in
theorem opposite_r (m n:Bool) (aoa aob:Option Addr) (ka ca kb cb:Nat) (w:World) :
  Calls Tryz.prog 149 #[.agg #[.bool m,.slice aoa ka ca,.bool n,.slice aob kb cb]] w fun e w' => e = .returned (.agg #[.bool (!m && decide (0 < ka)),.slice aoa ka ca,.bool n,.slice aob kb cb])/\Kept w w':=by
 obtain ⟨s,hs⟩:∃ s,s = (!m && decide (0 < ka)):=⟨_,rfl⟩
 rw [<- hs]
 have HS:Hid (s = (!m && decide (0 < ka))):=hs
 clear hs
 have K2:∀ x y,Kept w ((w.alloc x).alloc y):=fun x y => ((Kept.refl w).alloc x).alloc y
 go_enter Tryz.func149,Tryz.ntmps149
 go_wp2_with fail
 have hB:∀ W,Kept ((w.alloc (.cells #[.bool m,.slice aoa ka ca,.bool n,.slice aob kb cb] 168)).alloc (.cells #[.bool false,.slice none 0 0,.bool false,.slice none 0 0] 168)) W->(W.cell? ⟨w.heap.size,0,none⟩ = some (.bool m)/\W.cell? ⟨w.heap.size,1,none⟩ = some (.slice aoa ka ca)/\W.cell? ⟨w.heap.size,2,none⟩ = some (.bool n)/\W.cell? ⟨w.heap.size,3,none⟩ = some (.slice aob kb cb))/\(W.cell? ⟨w.heap.size + 1,0,none⟩ = some (.bool false)/\W.cell? ⟨w.heap.size + 1,1,none⟩ = some (.slice none 0 0)/\W.cell? ⟨w.heap.size + 1,2,none⟩ = some (.bool false)/\W.cell? ⟨w.heap.size + 1,3,none⟩ = some (.slice none 0 0))/\∀ o,W.frozen? ⟨w.heap.size + 1,o,none⟩ = false:=fun W hk => by
  refine ⟨⟨?_,?_,?_,?_⟩,⟨?_,?_,?_,?_⟩,fun o => ?_⟩
  ·
   rw [hk.cells _ _ (by simp; omega)]; simp
  ·
   rw [hk.cells _ _ (by simp; omega)]; simp
  ·
   rw [hk.cells _ _ (by simp; omega)]; simp
  ·
   rw [hk.cells _ _ (by simp; omega)]; simp
  ·
   rw [hk.cells _ _ (by simp)]; simp
  ·
   rw [hk.cells _ _ (by simp)]; simp
  ·
   rw [hk.cells _ _ (by simp)]; simp
  ·
   rw [hk.cells _ _ (by simp)]; simp
  ·
   rw [hk.frozens (w.heap.size + 1) o (by simp)]; exact World.frozen?_alloc_at _ _ _ _ (by simp)
 have HB:Hid (∀ W,Kept ((w.alloc (.cells #[.bool m,.slice aoa ka ca,.bool n,.slice aob kb cb] 168)).alloc (.cells #[.bool false,.slice none 0 0,.bool false,.slice none 0 0] 168)) W->(W.cell? ⟨w.heap.size,0,none⟩ = some (.bool m)/\W.cell? ⟨w.heap.size,1,none⟩ = some (.slice aoa ka ca)/\W.cell? ⟨w.heap.size,2,none⟩ = some (.bool n)/\W.cell? ⟨w.heap.size,3,none⟩ = some (.slice aob kb cb))/\(W.cell? ⟨w.heap.size + 1,0,none⟩ = some (.bool false)/\W.cell? ⟨w.heap.size + 1,1,none⟩ = some (.slice none 0 0)/\W.cell? ⟨w.heap.size + 1,2,none⟩ = some (.bool false)/\W.cell? ⟨w.heap.size + 1,3,none⟩ = some (.slice none 0 0))/\∀ o,W.frozen? ⟨w.heap.size + 1,o,none⟩ = false):=hB
 have HK:Hid (Kept w ((w.alloc (.cells #[.bool m,.slice aoa ka ca,.bool n,.slice aob kb cb] 168)).alloc (.cells #[.bool false,.slice none 0 0,.bool false,.slice none 0 0] 168))):=K2 _ _
 clear hB K2
 go_region_held3 (fun w' => w'.cell? ⟨w.heap.size,0,none⟩ = some (.bool m)/\w'.cell? ⟨w.heap.size,1,none⟩ = some (.slice aoa ka ca)/\w'.cell? ⟨w.heap.size,2,none⟩ = some (.bool n)/\w'.cell? ⟨w.heap.size,3,none⟩ = some (.slice aob kb cb)) (go_keep) (first | (go_at_call 174; refine (signed_r (!m) m aoa ka ca _).mono ?_; rw [<- HS.out]; rintro e w1 ⟨rfl,hk1⟩; obtain ⟨⟨hA0,hA1,hA2,hA3⟩,⟨hR0,hR1,hR2,hR3⟩,hf⟩:=HB.out _ ((Kept.refl _).drew.trans hk1); have HK1:Hid (Kept w w1):=HK.out.drew.trans hk1))
 go_wp2
 refine bodyPost_ret (v:=.agg #[.bool s,.slice aoa ka ca,.bool n,.slice aob kb cb]) (by simp [results,Tryz.results149,go_sem,hR0,hR1,hR2,hR3]) rfl ⟨rfl,?_⟩
 exact (((HK1.out.setCell (by show w.heap.size<=w.heap.size + 1; omega) _).setCell (by show w.heap.size<=w.heap.size + 1; omega) _).setCell (by show w.heap.size<=w.heap.size + 1; omega) _).setCell (by show w.heap.size<=w.heap.size + 1; omega) _
set_option maxHeartbeats 1000000 in
theorem nan_r (x:Int) (w:World):Calls Tryz.prog 171 #[.int .i64 x] w fun e w' => e = .returned (.bool false)/\Kept w w':=by
 go_enter Tryz.func171,Tryz.ntmps171
 go_wp2
 go_ret
 exact ⟨rfl,Kept.refl w⟩
set_option maxRecDepth 100000 in
set_option maxHeartbeats 1000000 in
theorem Compare_r (x y:Int) (w:World):Calls Tryz.prog 147 #[.int .i64 x,.int .i64 y] w fun e w' => e = .returned (.int .i64 (isgn x y))/\Kept w w':=by
 obtain ⟨z,HX⟩:∃ z,Hid (z = isgn x y):=⟨_,rfl⟩
 rw [<- HX.out]
 rcases Int.lt_trichotomy x y with h | rfl | h
 all_goals
  go_enter Tryz.func147,Tryz.ntmps147
  go_wp2_with fail
  refine (nan_r _ _).mono ?_
  rintro e w1 ⟨rfl,hk1⟩
  have HK1:=hk1
  clear hk1
  go_wp2_with fail
  refine (nan_r _ _).mono ?_
  rintro e w2 ⟨rfl,hk2⟩
  have HK:Hid (Kept w w2):=HK1.trans hk2
  clear hk2 HK1
  go_wp2
  go_ret
  exact ⟨ret_i64 (by rw [HX.out]; unfold isgn; split <;> (try split) <;> omega),HK.out⟩
end F
end Go.Proofs.YtembglnonhlnkaaGreatDoor

/- card.anew. -/
import Derived.Test.YtembglnonhlnkaaGreatDoorGaq
import Derived.Laws.BytesArg
namespace Go.Proofs.YtembglnonhlnkaaGreatDoor
open Go.RowKit
namespace V
open Q (hid')
theorem str_bytes' (D:List UInt8):strOfNums (D.map fun b => (b.toNat:Int)) = ⟨D.toArray⟩:=by
 unfold strOfNums
 rw [List.map_map]
 congr 2
 rw [show ((fun n:Int => UInt8.ofNat n.toNat) ∘ fun b:UInt8 => (b.toNat:Int)) = id from funext fun b => by simp]
 simp
set_option maxRecDepth 100000 in
set_option maxHeartbeats 4000000 in
theorem anew_any (s:ByteArray) (w:World):Calls Tryz.prog 43 #[.string s] w fun e w' => Kept w w'∧e = .returned (.string s):=by
 have hl:s.data.toList.length = s.size:=by rw [Array.length_toList]; rfl
 have hcv:=run_bytes_of_string (P:=Tryz.prog) w 9 78 5 s Tryz.underlying9 Tryz.underlying78 Tryz.underlying5
 have hK:=(Kept.refl w).alloc (.cells (bytesRow s (grownCap w s.size 0 5)) 5 ((bytesRow s (grownCap w s.size 0 5)).size,(bytesRow s (grownCap w s.size 0 5)).size + 1)) |>.drew
 have hcv2:=run_convert_bytes_arg (P:=Tryz.prog) (w.alloc (.cells (bytesRow s (grownCap w s.size 0 5)) 5 ((bytesRow s (grownCap w s.size 0 5)).size,(bytesRow s (grownCap w s.size 0 5)).size + 1))).drew 78 5 Tryz.underlying78 Tryz.underlying5 w.heap.size 0 s.size (grownCap w s.size 0 5) (s.data.toList.map fun b => (b.toNat:Int)) (by simp) (fun j hj => by
  have hj':j < s.data.size:=hj
  rw [Nat.zero_add]
  show (w.alloc _).cell? _ = _
  rw [World.cell?_alloc_mark,bytesRow_at s _ j hj',List.getD_eq_getElem?_getD,List.getElem?_map,List.getElem?_eq_getElem (by rw [Array.length_toList]; exact hj')]; rfl) 9 Tryz.underlying9
 rw [str_bytes'] at hcv2
 have HK:=hid' hK
 clear hK hl
 go_enter Tryz.func43,Tryz.ntmps43
 go_wp2_with fail
 go_ret
 exact ⟨HK.out,rfl⟩
end V
end Go.Proofs.YtembglnonhlnkaaGreatDoor

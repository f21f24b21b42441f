/- A list of texts that came in as an argument. -/
import Derived.Test.YtembglnonhlnkaaGreatDoorXos
import Derived.Test.YtembglnonhlnkaaGreatDoorOop
import Derived.SliceStrings
namespace Go.Proofs.YtembglnonhlnkaaGreatDoor
open Go.ChangeShapes Go.WideShapes Go.ChangeAt Go.RowKit Go.Joins Go.Deep
namespace V
open X (bs RS)
theorem cells_strs1:Tryz.prog.cellsOf 9 = 1:=by kernel_rfl
set_option maxRecDepth 100000 in
theorem words_of {H:Type} {enc:TypeId × Value→H} {W:World} {fuel:Nat} {v:Value} {y:DataW H × List MemPlace} (hf:DataW.trod enc Tryz.prog W 0 (fun _ => true) true fuel 22 [v] = some y):∃ (ao:Option Addr) (n c:Nat) (ws:List (List UInt8)),v = .slice ao n c∧RS W (.slice ao n c) ws∧n≤c∧c≤9223372036854775807∧∀ x ∈ ws,x.length≤9223372036854775807:=by
 obtain ⟨ao,n,c,rfl⟩:∃ ao n c,v = .slice ao n c:=by
  rcases open_slice Tryz.underlying22 hf with ⟨hcs,_⟩ | ⟨a,len,cap,_,_,_,_,hcs,_⟩
  ·
   simp at hcs; exact ⟨_,_,_,hcs⟩
  ·
   simp at hcs; exact ⟨_,_,_,hcs⟩
 rcases open_strings Tryz.underlying22 Tryz.underlying9 cells_strs1 hf with ⟨hcs,_⟩ | ⟨a,len,cap,ss,hcs,_,hl,hm,hz,_,hcell,hws⟩
 ·
  simp only [List.cons.injEq,Value.slice.injEq,and_true] at hcs
  obtain ⟨rfl,rfl,rfl⟩:=hcs
  exact ⟨none,0,0,[],rfl,⟨none,0,rfl,fun h => absurd h (by decide)⟩,Nat.le_refl _,by omega,by simp⟩
 ·
  simp only [List.cons.injEq,Value.slice.injEq,and_true] at hcs
  obtain ⟨rfl,rfl,rfl⟩:=hcs
  rw [if_pos rfl] at hz
  have hm':c≤9223372036854775807:=by unfold maxLen at hm; omega
  have hln:((ss.take n).map (fun s => s.data.toList)).length = n:=by rw [List.length_map,List.length_take]; omega
  refine ⟨some a,n,c,(ss.take n).map (fun s => s.data.toList),rfl,⟨some a,c,by rw [hln],fun h0 => ?_⟩,hl,hm',?_⟩
  ·
   rw [hln] at h0 ⊢
   have hc0:=hcell 0 (by omega)
   have hspot:a.spot = none:=by
    simp [Addr.add] at hc0
    exact World.cell?_spot hc0
   obtain ⟨b,off,spot⟩:=a
   simp at hspot
   subst hspot
   refine ⟨b,off,rfl,World.block_lt_of_cell? W _ (hcell 0 (by omega)),fun j hj => ?_⟩
   have hcj:=hcell j (by omega)
   have ha:(⟨b,off,none⟩:Addr).add j = ⟨b,off + j,none⟩:=by
    unfold Addr.add
    by_cases hj0:j = 0 <;> simp [hj0]
   rw [ha] at hcj
   have e1:ss.getD j ByteArray.empty = ss[j]'(by omega):=by rw [List.getD_eq_getElem?_getD,List.getElem?_eq_getElem (by omega)]; rfl
   have e2:((ss.take n).map (fun s => s.data.toList)).getD j [] = (ss[j]'(by omega)).data.toList:=by
    rw [List.getD_eq_getElem?_getD,List.getElem?_map,List.getElem?_take_of_lt hj,List.getElem?_eq_getElem (by omega)]
    rfl
   rw [hcj,e1,e2]
   rfl
  ·
   intro x hx
   obtain ⟨s,hs,rfl⟩:=List.mem_map.1 hx
   have:=hws s (List.mem_of_mem_take hs)
   rw [X.len_list]
   unfold maxLen at this
   omega
set_option maxRecDepth 100000 in
theorem open_Words {H:Type} {enc:TypeId × Value→H} {W:World} {r:Reach} {b0:Nat} {v:Value} {d:DataW H} {p:List MemPlace} (hv:Value.okWide Tryz.prog W r b0 22 v)
  (h:DataW.Trod enc Tryz.prog W 0 (fun _ => true) true 22 v d p):∃ (ao:Option Addr) (n c:Nat) (ws:List (List UInt8)),v = .slice ao n c∧RS W (.slice ao n c) ws∧n≤c∧c≤9223372036854775807∧∀ x ∈ ws,x.length≤9223372036854775807:=by
 obtain ⟨ao,n,c,rfl⟩:=okWide_slice Tryz.underlying22 hv
 obtain ⟨fuel,hf⟩:=h
 exact words_of (show DataW.trod enc Tryz.prog W 0 (fun _ => true) true fuel 22 [.slice ao n c] = some (d,p) from hf)
end V
end Go.Proofs.YtembglnonhlnkaaGreatDoor

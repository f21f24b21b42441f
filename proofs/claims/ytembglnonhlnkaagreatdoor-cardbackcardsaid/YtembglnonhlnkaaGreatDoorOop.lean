/- A model and a fraction that came in as arguments: what their reading gives the walks; how long their lists may be. -/
import Derived.Test.YtembglnonhlnkaaGreatDoorGan
import Derived.Test.YtembglnonhlnkaaGreatDoorOpenr
import Derived.Deep.Slices
import Derived.Deep.Strs
import Derived.SizedLaws
namespace Go.Proofs.YtembglnonhlnkaaGreatDoor
open Go.ChangeShapes Go.WideShapes Go.ChangeAt Go.RowKit Go.Joins Go.Deep
namespace V
theorem cells_num:Tryz.prog.cellsOf 26 = 2:=by kernel_rfl
theorem cells_nums:Tryz.prog.cellsOf 27 = 1:=by kernel_rfl
theorem cells_i:Tryz.prog.cellsOf 3 = 1:=by kernel_rfl
theorem cells_i64:Tryz.prog.cellsOf 2 = 1:=by kernel_rfl
theorem cells_str:Tryz.prog.cellsOf 9 = 1:=by kernel_rfl
theorem bytes_num:Tryz.prog.bytesOf 26 = 16:=by kernel_rfl
def I64 (n:Int):Prop:=-9223372036854775808≤n∧n≤9223372036854775807
theorem bnd {x:Int} (w:(Lit.int .i64 x).wf = true):I64 x:=by
 unfold I64
 simpa [Lit.wf,IntKind.min,IntKind.max,IntKind.signed,IntKind.bits] using w
set_option maxRecDepth 100000 in
theorem open_pair {H:Type} {enc:TypeId × Value→H} {W:World} {fuel:Nat} {c0 c1:Value} {y:DataW H × List MemPlace} (h:DataW.trod enc Tryz.prog W 0 (fun _ => true) true fuel 26 [c0,c1] = some y) :
  ∃ m x:Int,c0 = .int .i64 m∧c1 = .int .i64 x∧I64 m∧I64 x:=by
 obtain ⟨y0,y1,n,_,_,h0,h1⟩:=trod_struct2 (cs:=[c0,c1]) Tryz.underlying26 h
 simp only [cells_i64,List.drop_zero,List.take_succ_cons,List.take_zero] at h0
 simp only [cells_i,List.drop_succ_cons,List.drop_zero,List.take_succ_cons,List.take_zero] at h1
 obtain ⟨m,e0,_,wm⟩:=DataW.trod_int Tryz.underlying2 h0
 obtain ⟨x,e1,_,wx⟩:=DataW.trod_int Tryz.underlying3 h1
 simp at e0 e1
 exact ⟨m,x,e0,e1,bnd wm,bnd wx⟩
theorem list_of {n:Nat} (X:Nat→Int × Int):∃ l:List (Int × Int),l.length = n∧∀ i,i < n→l.getD i (0,0) = X i:=by
 refine ⟨(List.range n).map X,by simp,fun i hi => ?_⟩
 rw [List.getD_eq_getElem?_getD,List.getElem?_map,List.getElem?_range hi]
 rfl
set_option maxRecDepth 100000 in
theorem open_nums {H:Type} {enc:TypeId × Value→H} {W:World} {fuel:Nat} {a0:Option Addr} {len0 cap0:Nat} {y:DataW H × List MemPlace} (h:DataW.trod enc Tryz.prog W 0 (fun _ => true) true fuel 27 [.slice a0 len0 cap0] = some y) :
  ∃ l,NSl W (.slice a0 len0 cap0) l∧len0≤9223372036854775807:=by
 rcases open_slice Tryz.underlying27 h with ⟨hcs,_⟩ | ⟨a,len,cap,mm,nn,D,Pl,hcs,_,hl,hm,hmm,_,hx⟩
 ·
  simp at hcs
  obtain ⟨rfl,rfl,rfl⟩:=hcs
  exact ⟨[],⟨none,0,rfl,fun h => absurd h (by decide)⟩,by omega⟩
 ·
  simp at hcs
  obtain ⟨rfl,rfl,rfl⟩:=hcs
  have hlen:len0≤9223372036854775807:=by unfold maxLen at hm; omega
  rw [if_pos rfl] at hmm
  by_cases hN:0 < len0
  ·
   have hspot:a.spot = none:=by
    obtain ⟨cs',h1,_⟩:=hx 0 (by omega)
    rw [cells_num] at h1
    obtain ⟨_,hlen4,hc⟩:=World.cells?_some h1
    have h0:=hc 0 (by omega)
    simp [Addr.add] at h0
    exact World.cell?_spot (h0.trans (List.getElem?_eq_getElem (by omega)))
   obtain ⟨b,off,spot⟩:=a
   simp at hspot
   subst hspot
   obtain ⟨X,hX⟩:=choose_lt (n:=len0) (p:=fun i (x:Int × Int) => W.cell? ⟨b,off + i * 2,none⟩ = some (.int .i64 x.1)∧W.cell? ⟨b,off + i * 2 + 1,none⟩ = some (.int .i64 x.2)) (fun i hi => by
    obtain ⟨cs',h1,h2⟩:=hx i (by omega)
    rw [cells_num] at h1
    obtain ⟨_,hlen4,hc⟩:=World.cells?_some h1
    match cs',hlen4 with
    | [x0,x1],_ =>
     obtain ⟨m,x,rfl,rfl,_,_⟩:=open_pair h2
     have add4:∀ q j,((⟨b,off,none⟩:Addr).add q).add j = ⟨b,off + q + j,none⟩:=fun q j => by
      unfold Addr.add
      by_cases hi0:q = 0 <;> by_cases hj0:j = 0 <;> simp [hi0,hj0]
     have c0:=hc 0 (by omega)
     have c1:=hc 1 (by omega)
     rw [add4] at c0 c1
     exact ⟨(m,x),c0,c1⟩)
   obtain ⟨l,hll,hg⟩:=list_of (n:=len0) X
   refine ⟨l,⟨some ⟨b,off,none⟩,cap0,by rw [hll],fun _ => ⟨b,off,rfl,World.block_lt_of_cell? W _ (hX 0 hN).1,fun j hj => ?_⟩⟩,hlen⟩
   rw [hg j (by omega)]
   exact hX j (by omega)
  ·
   obtain rfl:len0 = 0:=by omega
   exact ⟨[],⟨some a,cap0,rfl,fun h => absurd h (by decide)⟩,by omega⟩
end V
end Go.Proofs.YtembglnonhlnkaaGreatDoor

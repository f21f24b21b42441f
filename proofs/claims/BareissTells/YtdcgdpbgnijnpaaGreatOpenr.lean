/- Whole numbers and fractions that came in as arguments: what their reading gives the walks. -/
import Derived.Test.YtdcgdpbgnijnpaaGreatGac
import Derived.Test.YtdcgdpbgnijnpaaGreatRows
import Derived.ProofKit
import Derived.OpenShut
import Derived.Stop.Joined
import Derived.Lib.SmallJoins
namespace Go.Proofs.YtdcgdpbgnijnpaaGreat
open Go.ChangeShapes Go.WideShapes Go.ChangeAt Go.RowKit Go.Joins
theorem own:ownKnob Tryz.prog.godebug = none:=by kernel_rfl
theorem laidOut:laidOutB Tryz.prog = true:=by kernel_rfl
theorem cells_int:Tryz.prog.cellsOf 37 = 2:=by kernel_rfl
theorem cells_u32:Tryz.prog.cellsOf 40 = 1:=by kernel_rfl
theorem cells_us:Tryz.prog.cellsOf 35 = 1:=by kernel_rfl
theorem cells_bool:Tryz.prog.cellsOf 4 = 1:=by kernel_rfl
theorem wf_u32 {n:Int} (h:(Lit.int .u32 n).wf = true):0≤n∧n < 4294967296:=by
 have:=bounds_u32 h
 omega
theorem Sl.of_open {W:World} {a:Addr} {len cap:Nat} {zs:List Int} (hl:len≤cap) (hz:zs.length = cap) (hcell:∀ i,i < zs.length→W.cell? (a.add i) = some (.int .u32 (zs.getD i 0)))
  (hwf:∀ n ∈ zs,(Lit.int .u32 n).wf = true):∃ l,l.length = len∧Sl W (.slice (some a) len cap) l:=by
 have hlen:((zs.take len).map Int.toNat).length = len:=by rw [List.length_map,List.length_take]; omega
 refine ⟨(zs.take len).map Int.toNat,hlen,fun x hx => ?_,some a,cap,by rw [hlen],fun h0 => ?_⟩
 ·
  rw [List.mem_map] at hx
  obtain ⟨n,hn,rfl⟩:=hx
  have:=wf_u32 (hwf n (List.mem_of_mem_take hn))
  omega
 ·
  rw [hlen] at h0 ⊢
  refine ⟨hl,?_⟩
  obtain ⟨b,off,spot⟩:=a
  have hc0:=hcell 0 (by omega)
  have hspot:spot = none:=by simpa [Addr.add] using World.cell?_spot hc0
  subst hspot
  refine ⟨b,off,rfl,World.block_lt_of_cell? W _ (by simpa [Addr.add] using hc0),fun j hj => ?_⟩
  have hcj:=hcell j (by omega)
  have e1:(((zs.take len).map Int.toNat).getD j 0:Nat) = (zs.getD j 0).toNat:=by
   rw [List.getD_eq_getElem?_getD,List.getElem?_map,List.getElem?_take_of_lt hj,List.getElem?_eq_getElem (by omega),List.getD_eq_getElem?_getD,List.getElem?_eq_getElem (by omega)]; rfl
  have e2:0≤zs.getD j 0:=by
   rw [List.getD_eq_getElem?_getD,List.getElem?_eq_getElem (by omega)]
   exact (wf_u32 (hwf _ (List.getElem_mem (by omega)))).1
  rw [e1,Int.toNat_of_nonneg e2,← hcj]
  by_cases hj0:j = 0
  ·
   subst hj0; rfl
  ·
   simp [Addr.add,hj0]
set_option maxRecDepth 100000 in
theorem open_two {H:Type} {enc:TypeId × Value→H} {W:World} {fuel:Nat} {c0 c1:Value} {y:DataW H × List MemPlace} (h:DataW.trod enc Tryz.prog W 0 (fun _ => true) true fuel 37 [c0,c1] = some y) :
  ∃ m ao len cap l,c0 = .bool m∧c1 = .slice ao len cap∧Sl W (.slice ao len cap) l∧l.length≤9223372036854775807:=by
 obtain ⟨y0,y1,n,_,_,h0,h1⟩:=trod_struct2 Tryz.underlying37 h
 simp only [cells_bool,List.drop_zero,List.take_succ_cons,List.take_zero] at h0
 simp only [cells_us,List.drop_succ_cons,List.drop_zero,List.take_succ_cons,List.take_zero] at h1
 obtain ⟨m,e0,_⟩:=DataW.trod_bool Tryz.underlying4 h0
 simp at e0
 subst e0
 rcases open_ints Tryz.underlying35 Tryz.underlying40 cells_u32 h1 with ⟨hcs,_⟩ | ⟨a,len,cap,zs,hcs,_,hl,hm,hz,_,hcell,hwz⟩
 ·
  simp at hcs
  subst hcs
  exact ⟨m,none,0,0,[],rfl,rfl,Sl.nil _ _ _,by simp⟩
 ·
  simp at hcs
  subst hcs
  obtain ⟨l,hll,hs⟩:=Sl.of_open hl (by simpa using hz) hcell hwz
  refine ⟨m,some a,len,cap,l,rfl,rfl,hs,?_⟩
  rw [hll]
  unfold maxLen at hm
  omega
end Go.Proofs.YtdcgdpbgnijnpaaGreat

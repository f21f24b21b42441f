/- Lists of whole numbers, and lists of such lists, that came in as arguments. A list of whole numbers that came in as an argument, with its numbers' bounds. -/
import Derived.Test.YtdcfammglpebaaaGreatGah
import Derived.Test.YtdcfammglpebaaaGreatRows
import Derived.ProofKit
import Derived.OpenShut
import Derived.Stop.Joined
import Derived.Lib.SmallJoins
import Derived.Deep.Slices
namespace Go.Proofs.YtdcfammglpebaaaGreat
open Go.ChangeShapes Go.WideShapes Go.ChangeAt Go.RowKit Go.Joins Go.Deep
namespace Sp
theorem own:ownKnob Tryz.prog.godebug = none:=by kernel_rfl
theorem laidOut:laidOutB Tryz.prog = true:=by kernel_rfl
theorem cells_i:Tryz.prog.cellsOf 3 = 1:=by kernel_rfl
end Sp
end Go.Proofs.YtdcfammglpebaaaGreat

namespace Go.Proofs.YtdcfammglpebaaaGreat
open Go.ChangeShapes Go.WideShapes Go.ChangeAt Go.RowKit Go.Joins Go.Deep
namespace Sp
set_option maxRecDepth 100000 in
theorem open_Ints2 {H:Type} {enc:TypeId × Value→H} {W:World} {r:Reach} {b0:Nat} {v:Value} {d:DataW H} {p:List MemPlace} (hv:Value.okWide Tryz.prog W r b0 41 v)
  (h:DataW.Trod enc Tryz.prog W 0 (fun _ => true) true 41 v d p):∃ (ao:Option Addr) (n c:Nat) (l:List Int),v = .slice ao n c∧ISl W (.slice ao n c) l∧n≤9223372036854775807∧∀ x ∈ l,-9223372036854775808≤x∧x≤9223372036854775807:=by
 obtain ⟨a0,len0,cap0,rfl⟩:=okWide_slice Tryz.underlying41 hv
 obtain ⟨fuel,hf⟩:=h
 rcases open_ints Tryz.underlying41 Tryz.underlying3 cells_i hf with ⟨hcs,_⟩ | ⟨a,len,cap,zs,hcs,_,hl,hm,hz,_,hcell,hwz⟩
 ·
  have hcs':[Value.slice a0 len0 cap0] = [Value.slice none 0 0]:=hcs
  simp at hcs'
  obtain ⟨rfl,rfl,rfl⟩:=hcs'
  exact ⟨none,0,0,[],rfl,⟨none,0,rfl,fun h => absurd h (by decide)⟩,Nat.zero_le _,fun x hx => by cases hx⟩
 ·
  have hcs':[Value.slice a0 len0 cap0] = [Value.slice (some a) len cap]:=hcs
  simp at hcs'
  obtain ⟨rfl,rfl,rfl⟩:=hcs'
  have hz:zs.length = cap0:=by simpa using hz
  have hlen:(zs.take len0).length = len0:=by rw [List.length_take]; omega
  refine ⟨some a,len0,cap0,zs.take len0,rfl,?_,by unfold maxLen at hm; omega,fun x hx => ?_⟩
  ·
   refine ⟨some a,cap0,by rw [hlen],fun h0 => ?_⟩
   rw [hlen] at h0 ⊢
   obtain ⟨b,off,spot⟩:=a
   have hc0:=hcell 0 (by omega)
   have hspot:spot = none:=by simpa [Addr.add] using World.cell?_spot hc0
   subst hspot
   refine ⟨b,off,rfl,World.block_lt_of_cell? W _ (by simpa [Addr.add] using hc0),fun j hj => ?_⟩
   have hcj:=hcell j (by omega)
   have e1:(zs.take len0).getD j 0 = zs.getD j 0:=by
    rw [List.getD_eq_getElem?_getD,List.getElem?_take_of_lt hj,List.getD_eq_getElem?_getD]
   rw [e1,← hcj]
   by_cases hj0:j = 0
   ·
    subst hj0; rfl
   ·
    simp [Addr.add,hj0]
  ·
   have:=hwz x (List.mem_of_mem_take hx)
   simp [Lit.wf,IntKind.min,IntKind.max,IntKind.bits,IntKind.signed] at this
   omega
end Sp
end Go.Proofs.YtdcfammglpebaaaGreat

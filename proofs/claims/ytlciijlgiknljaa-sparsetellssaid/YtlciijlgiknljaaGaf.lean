/- Lists of whole numbers, and lists of such lists, that came in as arguments. A list of whole numbers that came in as an argument, with its numbers' bounds. -/
import Derived.Test.YtlciijlgiknljaaGac
import Derived.Test.YtlciijlgiknljaaRows
import Derived.ProofKit
import Derived.OpenShut
import Derived.Stop.Joined
import Derived.Lib.SmallJoins
import Derived.Deep.Slices
namespace Go.Proofs.Ytlciijlgiknljaa
open Go.ChangeShapes Go.WideShapes Go.ChangeAt Go.RowKit Go.Joins Go.Deep
namespace Sp
theorem own:ownKnob Try.prog.godebug = none:=by kernel_rfl
theorem laidOut:laidOutB Try.prog = true:=by kernel_rfl
theorem cells_i:Try.prog.cellsOf 3 = 1:=by kernel_rfl
theorem cells_ints:Try.prog.cellsOf 41 = 1:=by kernel_rfl
theorem isl_of_open {W:World} {a:Addr} {len cap:Nat} {zs:List Int} (hl:len≤cap) (hz:zs.length = cap) (hcell:∀ i,i < zs.length→W.cell? (a.add i) = some (.int .i64 (zs.getD i 0))):∃ l,l.length = len∧ISl W (.slice (some a) len cap) l:=by
  have hlen:(zs.take len).length = len:=by rw [List.length_take]; omega
  refine ⟨zs.take len,hlen,some a,cap,by rw [hlen],fun h0 => ?_⟩
  rw [hlen] at h0 ⊢
  obtain ⟨b,off,spot⟩:=a
  have hc0:=hcell 0 (by omega)
  have hspot:spot = none:=by simpa [Addr.add] using World.cell?_spot hc0
  subst hspot
  refine ⟨b,off,rfl,World.block_lt_of_cell? W _ (by simpa [Addr.add] using hc0),fun j hj => ?_⟩
  have hcj:=hcell j (by omega)
  have e1:(zs.take len).getD j 0 = zs.getD j 0:=by
    rw [List.getD_eq_getElem?_getD,List.getElem?_take_of_lt hj,List.getD_eq_getElem?_getD]
  rw [e1,← hcj]
  by_cases hj0:j = 0
  · subst hj0; rfl
  · simp [Addr.add,hj0]
theorem open_isl {H:Type} {enc:TypeId × Value→H} {W:World} {fuel:Nat} {c0:Value} {y:DataW H × List MemPlace} (h:DataW.trod enc Try.prog W 0 (fun _ => true) true fuel 41 [c0] = some y) :
    ∃ ao n c l,c0 = .slice ao n c∧ISl W (.slice ao n c) l∧l.length = n:=by
  rcases open_slice Try.underlying41 h with ⟨hcs,hy⟩ | ⟨a,len,cap,mm,nn,D,Pl,hcs,_,_,_,_,rfl,_⟩
  · simp at hcs
    subst hcs
    exact ⟨none,0,0,[],rfl,⟨none,0,rfl,fun h => absurd h (by decide)⟩,rfl⟩
  · simp at hcs
    subst hcs
    rcases open_ints Try.underlying41 Try.underlying3 cells_i h with ⟨hcs,_⟩ | ⟨a',len',cap',zs,hcs,_,hl,hm,hz,_,hcell,hwz⟩
    · simp at hcs
    · simp at hcs
      obtain ⟨rfl,rfl,rfl⟩:=hcs
      obtain ⟨l,hll,hs⟩:=isl_of_open hl (by simpa using hz) hcell
      exact ⟨some a,len,cap,l,rfl,hs,hll⟩
set_option maxRecDepth 100000 in
theorem open_Pat {H:Type} {enc:TypeId × Value→H} {W:World} {r:Reach} {b0:Nat} {v:Value} {d:DataW H} {p:List MemPlace} (hv:Value.okWide Try.prog W r b0 22 v)
    (h:DataW.Trod enc Try.prog W 0 (fun _ => true) true 22 v d p):∃ (ao:Option Addr) (n c:Nat) (P:List (List Int)),v = .slice ao n c∧PatR W (.slice ao n c) P:=by
  obtain ⟨a0,len0,cap0,rfl⟩:=okWide_slice Try.underlying22 hv
  obtain ⟨fuel,hf⟩:=h
  rcases open_slice Try.underlying22 hf with ⟨hcs,_⟩ | ⟨a,len,cap,mm,nn,D,Pl,hcs,_,hl,hm,hmm,_,hx⟩
  · have hcs':[Value.slice a0 len0 cap0] = [Value.slice none 0 0]:=hcs
    simp at hcs'
    obtain ⟨rfl,rfl,rfl⟩:=hcs'
    exact ⟨none,0,0,[],rfl,none,0,rfl,fun h => absurd h (by decide)⟩
  · have hcs':[Value.slice a0 len0 cap0] = [Value.slice (some a) len cap]:=hcs
    simp at hcs'
    obtain ⟨rfl,rfl,rfl⟩:=hcs'
    rw [if_pos rfl] at hmm
    by_cases hN:0 < len0
    · have hspot:a.spot = none:=by
        obtain ⟨cs',h1,_⟩:=hx 0 (by omega)
        rw [cells_ints] at h1
        obtain ⟨_,hlen4,hc⟩:=World.cells?_some h1
        have h0:=hc 0 (by omega)
        simp [Addr.add] at h0
        exact World.cell?_spot (h0.trans (List.getElem?_eq_getElem (by omega)))
      obtain ⟨b,off,spot⟩:=a
      simp at hspot
      subst hspot
      obtain ⟨X,hX⟩:=choose_lt (n:=len0) (p:=fun i (x:List Int) => ∃ (ra:Option Addr) (rc:Nat),W.cell? ⟨b,off + i,none⟩ = some (.slice ra x.length rc)∧ISl W (.slice ra x.length rc) x) (fun i hi => by
        obtain ⟨cs',h1,h2⟩:=hx i (by omega)
        rw [cells_ints] at h1
        obtain ⟨_,hlen4,hc⟩:=World.cells?_some h1
        match cs',hlen4 with
        | [x0],_ =>
          obtain ⟨ra,rn,rc,l,rfl,hI,hl⟩:=open_isl h2
          have c0:=hc 0 (by omega)
          have add1:((⟨b,off,none⟩:Addr).add (i * 1)).add 0 = ⟨b,off + i,none⟩:=by
            unfold Addr.add
            by_cases hi0:i = 0 <;> simp [hi0]
          refine ⟨l,ra,rc,?_,by rw [hl]; exact hI⟩
          rw [hl]
          first
            | (rw [add1] at c0; exact c0)
            | (have add2 : ((⟨b, off, none⟩ : Addr).add i).add 0 = ⟨b, off + i, none⟩ := by
                 unfold Addr.add
                 by_cases hi0:i = 0 <;> simp [hi0]
               rw [add2] at c0; exact c0))
      have hblt:b < W.heap.size:=by
        obtain ⟨ra,rc,h1,_⟩:=hX 0 hN
        exact World.block_lt_of_cell? W _ h1
      have hln:((List.range len0).map X).length = len0:=by simp
      refine ⟨some ⟨b,off,none⟩,len0,cap0,(List.range len0).map X,rfl,some ⟨b,off,none⟩,cap0,by rw [hln],fun _ => ⟨b,off,rfl,hblt,fun i hi => ?_⟩⟩
      rw [hln] at hi
      rw [List.getD_eq_getElem?_getD,List.getElem?_map,List.getElem?_range hi]
      exact hX i hi
    · obtain rfl:len0 = 0:=by omega
      exact ⟨some a,0,cap0,[],rfl,some a,cap0,rfl,fun h => absurd h (by decide)⟩
end Sp
end Go.Proofs.Ytlciijlgiknljaa

namespace Go.Proofs.Ytlciijlgiknljaa
open Go.ChangeShapes Go.WideShapes Go.ChangeAt Go.RowKit Go.Joins Go.Deep
namespace Sp
set_option maxRecDepth 100000 in
theorem open_Place {H:Type} {enc:TypeId × Value→H} {W:World} {r:Reach} {b0:Nat} {v:Value} {d:DataW H} {p:List MemPlace} (hv:Value.okWide Try.prog W r b0 24 v)
  (h:DataW.Trod enc Try.prog W 0 (fun _ => true) true 24 v d p):∃ m x:Int,v = .agg #[.int .i64 m,.int .i64 x]:=by
 obtain ⟨c0,c1,y0,y1,n,rfl,_,_,h0,h1⟩:=open_agg2 Try.underlying24 (by kernel_rfl) (by kernel_rfl) hv h
 obtain ⟨m,e0,_,_⟩:=DataW.trod_int Try.underlying3 h0
 obtain ⟨x,e1,_,_⟩:=DataW.trod_int Try.underlying3 h1
 simp at e0 e1
 subst e0
 subst e1
 exact ⟨m,x,rfl⟩
end Sp
end Go.Proofs.Ytlciijlgiknljaa

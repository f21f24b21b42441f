/- A matrix, a list of whole numbers that came in as arguments. -/
import Derived.Test.YtdcgdpbgnijnpaaGreatSzg
import Derived.Test.YtdcgdpbgnijnpaaGreatGan
namespace Go.Proofs.YtdcgdpbgnijnpaaGreat
open Go.ChangeShapes Go.WideShapes Go.ChangeAt Go.RowKit Go.Joins Go.Deep
namespace Bm
open Sy
theorem bytes_int:Tryz.prog.bytesOf 37 = 32:=by kernel_rfl
theorem bytes_cells:Tryz.prog.bytesOf 34 = 24:=by kernel_rfl
set_option maxRecDepth 100000 in
theorem open_Mat {H:Type} {enc:TypeId × Value→H} {W:World} {r:Reach} {b0:Nat} {v:Value} {d:DataW H} {p:List MemPlace} (hv:Value.okWide Tryz.prog W r b0 22 v)
  (h:DataW.Trod enc Tryz.prog W 0 (fun _ => true) true 22 v d p) (hz:∀ x ∈ d.weights Tryz.prog 22,x≤reachBytes):∃ (ao:Option Addr) (n c:Nat) (L:List LE),v = .slice ao n c∧n = L.length∧MxR W ao L∧(∀ r ∈ L,r.cs.length≤1000000000000000)∧n≤1000000000000000:=by
 obtain ⟨a0,len0,cap0,rfl⟩:=okWide_slice Tryz.underlying22 hv
 obtain ⟨fuel,hf⟩:=h
 obtain ⟨ao,n,c,L,e,hl,h1,hq,h2⟩:=open_list (cells:=fun l:LE => [l.v]) (ok:=fun w l => CsR w l.ao l.cs) (Q:=fun l:LE => l.cs.length≤1000000000000000) ⟨none,0,[]⟩ Tryz.underlying22 cells_cells (by decide) (fun m cs z hl h hz => by
  match cs,hl with
  | [x0],_ =>
   obtain ⟨a,e,h1,h2⟩:=open_le h hz
   exact ⟨a,by rw [e],h1,h2⟩) hf hz
 have e:Value.slice a0 len0 cap0 = .slice ao n c:=e
 refine ⟨ao,n,c,L,e,hl,h1,hq,?_⟩
 rw [bytes_cells] at h2
 unfold reachBytes at h2
 omega
set_option maxRecDepth 100000 in
theorem open_Zs {H:Type} {enc:TypeId × Value→H} {W:World} {r:Reach} {b0:Nat} {v:Value} {d:DataW H} {p:List MemPlace} (hv:Value.okWide Tryz.prog W r b0 23 v)
  (h:DataW.Trod enc Tryz.prog W 0 (fun _ => true) true 23 v d p) (hz:∀ x ∈ d.weights Tryz.prog 23,x≤reachBytes):∃ (ao:Option Addr) (n c:Nat) (L:List ZE),v = .slice ao n c∧n = L.length∧ZsR W ao L∧n≤1000000000000000:=by
 obtain ⟨a0,len0,cap0,rfl⟩:=okWide_slice Tryz.underlying23 hv
 obtain ⟨fuel,hf⟩:=h
 obtain ⟨ao,n,c,L,e,hl,h1,_,h2⟩:=open_list (cells:=ZE.cells) (ok:=ZE.ok) (Q:=fun _ => True) z0 Tryz.underlying23 cells_int (by decide) (fun m cs z hl h _ => by
  match cs,hl with
  | [x0,x1],_ =>
   obtain ⟨a,e,ha⟩:=open_ze h
   exact ⟨a,e,ha,trivial⟩) hf hz
 refine ⟨ao,n,c,L,e,hl,h1,?_⟩
 rw [bytes_int] at h2
 unfold reachBytes at h2
 omega
end Bm
end Go.Proofs.YtdcgdpbgnijnpaaGreat

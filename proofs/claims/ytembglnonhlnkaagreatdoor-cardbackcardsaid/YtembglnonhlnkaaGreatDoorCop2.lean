/- A card that came in as an argument: what its reading gives the walks; how long its lists may be. -/
import Derived.Test.YtembglnonhlnkaaGreatDoorCop
import Derived.Test.YtembglnonhlnkaaGreatDoorGba
import Derived.Lib.SmallJoins
namespace Go.Proofs.YtembglnonhlnkaaGreatDoor
open Go.ChangeShapes Go.WideShapes Go.ChangeAt Go.RowKit Go.Joins Go.Deep
namespace V
open X (bs RS)
theorem cells_card:Tryz.prog.cellsOf 32 = 8:=by kernel_rfl
theorem cells_wave:Tryz.prog.cellsOf 30 = 3:=by kernel_rfl
theorem cells_ints:Tryz.prog.cellsOf 28 = 1:=by kernel_rfl
theorem cells_strs:Tryz.prog.cellsOf 22 = 1:=by kernel_rfl
theorem bytes_int:Tryz.prog.bytesOf 3 = 8:=by kernel_rfl
theorem bytes_str:Tryz.prog.bytesOf 9 = 16:=by kernel_rfl
theorem array8 {α:Type} {cs:Array α} (h:cs.size = 8):∃ c0 c1 c2 c3 c4 c5 c6 c7,cs = #[c0,c1,c2,c3,c4,c5,c6,c7]:=by
 obtain ⟨l⟩:=cs
 match l,h with
 | [c0,c1,c2,c3,c4,c5,c6,c7],_ => exact ⟨c0,c1,c2,c3,c4,c5,c6,c7,rfl⟩
theorem trod_struct5 {H:Type} {enc:TypeId × Value→H} {P:Program} {w:World} {base:Nat} {spare:Nat→Bool} {held:Bool} {t:TypeId} {f0 f1 f2 f3 f4:Field} {fuel:Nat} {cs:List Value} {x:DataW H × List MemPlace} (ht:P.underlying t = some (.struct #[f0,f1,f2,f3,f4])) (h:DataW.trod enc P w base spare held fuel t cs = some x) :
  ∃ y0 y1 y2 y3 y4 n,x = (.agg [y0.1,y1.1,y2.1,y3.1,y4.1],y0.2 ++ (y1.2 ++ (y2.2 ++ (y3.2 ++ y4.2))))∧DataW.trod enc P w base spare held n f0.type ((cs.drop f0.offset).take (P.cellsOf f0.type)) = some y0 ∧
   DataW.trod enc P w base spare held n f1.type ((cs.drop f1.offset).take (P.cellsOf f1.type)) = some y1∧DataW.trod enc P w base spare held n f2.type ((cs.drop f2.offset).take (P.cellsOf f2.type)) = some y2 ∧
   DataW.trod enc P w base spare held n f3.type ((cs.drop f3.offset).take (P.cellsOf f3.type)) = some y3∧DataW.trod enc P w base spare held n f4.type ((cs.drop f4.offset).take (P.cellsOf f4.type)) = some y4:=by
 obtain ⟨xs,n,_,rfl,hl,hlen,hf⟩:=DataW.trod_struct ht h
 match xs,hlen with
 | [y0,y1,y2,y3,y4],_ => exact ⟨y0,y1,y2,y3,y4,n,by simp,by simpa using hf 0 f0 rfl,by simpa using hf 1 f1 rfl,by simpa using hf 2 f2 rfl,by simpa using hf 3 f3 rfl,by simpa using hf 4 f4 rfl⟩
theorem isl_of_open {W:World} {a:Addr} {len cap:Nat} {zs:List Int} (hl:len≤cap) (hz:zs.length = cap) (hcell:∀ i,i < zs.length→W.cell? (a.add i) = some (.int .i64 (zs.getD i 0))):∃ l,l.length = len∧ISl W (.slice (some a) len cap) l:=by
 have hlen:(zs.take len).length = len:=by rw [List.length_take]; omega
 refine ⟨zs.take len,hlen,some a,cap,by rw [hlen],fun h0 => ?_⟩
 rw [hlen] at h0 ⊢
 obtain ⟨b,off,spot⟩:=a
 have hc0:=hcell 0 (by omega)
 have hspot:spot = none:=by simpa [Addr.add] using World.cell?_spot hc0
 subst hspot
 refine ⟨b,off,rfl,World.block_lt_of_cell? W _ (by simpa [Addr.add] using hc0),fun j hj => ?_⟩
 have hcj:=hcell j (by omega)
 have e1:(zs.take len).getD j 0 = zs.getD j 0:=by
  rw [List.getD_eq_getElem?_getD,List.getElem?_take_of_lt hj,List.getD_eq_getElem?_getD]
 rw [e1,← hcj]
 by_cases hj0:j = 0
 ·
  subst hj0; rfl
 ·
  simp [Addr.add,hj0]
theorem open_isl {H:Type} {enc:TypeId × Value→H} {W:World} {fuel:Nat} {c0:Value} {y:DataW H × List MemPlace} (h:DataW.trod enc Tryz.prog W 0 (fun _ => true) true fuel 28 [c0] = some y) :
  ∃ ao n c l,c0 = .slice ao n c∧ISl W (.slice ao n c) l∧((∀ x ∈ y.1.weights Tryz.prog 28,x≤reachBytes)→(n + 256) * 8≤140737488355328):=by
 rcases open_slice Tryz.underlying28 h with ⟨hcs,hy⟩ | ⟨a,len,cap,mm,nn,D,Pl,hcs,_,_,_,_,rfl,_⟩
 ·
  simp at hcs
  subst hcs
  exact ⟨none,0,0,[],rfl,⟨none,0,rfl,fun h => absurd h (by decide)⟩,fun _ => by omega⟩
 ·
  simp at hcs
  subst hcs
  rcases open_ints Tryz.underlying28 Tryz.underlying3 cells_i h with ⟨hcs,_⟩ | ⟨a',len',cap',zs,hcs,_,hl,hm,hz,_,hcell,hwz⟩
  ·
   simp at hcs
  ·
   simp at hcs
   obtain ⟨rfl,rfl,rfl⟩:=hcs
   obtain ⟨l,hll,hs⟩:=isl_of_open hl (by simpa using hz) hcell
   refine ⟨some a,len,cap,l,rfl,hs,fun hx => ?_⟩
   unfold reachBytes at hx
   have:=hx ((len + (mm - len)) * 8) (by simp [DataW.weights,Tryz.underlying28,bytes_int])
   omega
theorem open_nsl {H:Type} {enc:TypeId × Value→H} {W:World} {fuel:Nat} {c0:Value} {y:DataW H × List MemPlace} (h:DataW.trod enc Tryz.prog W 0 (fun _ => true) true fuel 27 [c0] = some y) :
  ∃ ao n c l,c0 = .slice ao n c∧NSl W (.slice ao n c) l∧((∀ x ∈ y.1.weights Tryz.prog 27,x≤reachBytes)→(n + 256) * 16≤140737488355328):=by
 rcases open_slice Tryz.underlying27 h with ⟨hcs,hy⟩ | ⟨a,len,cap,mm,nn,D,Pl,hcs,_,_,_,_,rfl,_⟩
 ·
  simp at hcs
  subst hcs
  exact ⟨none,0,0,[],rfl,⟨none,0,rfl,fun h => absurd h (by decide)⟩,fun _ => by omega⟩
 ·
  simp at hcs
  subst hcs
  obtain ⟨l,hs,_⟩:=open_nums h
  refine ⟨some a,len,cap,l,rfl,hs,fun hx => ?_⟩
  unfold reachBytes at hx
  have:=hx ((len + (mm - len)) * 16) (by simp [DataW.weights,Tryz.underlying27,bytes_num])
  omega
theorem open_rs {H:Type} {enc:TypeId × Value→H} {W:World} {fuel:Nat} {c0:Value} {y:DataW H × List MemPlace} (h:DataW.trod enc Tryz.prog W 0 (fun _ => true) true fuel 22 [c0] = some y) :
  ∃ ao n c l,c0 = .slice ao n c∧RS W (.slice ao n c) l∧n≤c∧c≤9223372036854775807∧(∀ x ∈ l,x.length≤9223372036854775807)∧((∀ x ∈ y.1.weights Tryz.prog 22,x≤reachBytes)→(n + 256) * 16≤140737488355328):=by
 obtain ⟨ao,n,c,rfl⟩:∃ ao n c,c0 = .slice ao n c:=by
  rcases open_slice Tryz.underlying22 h with ⟨hcs,_⟩ | ⟨a,len,cap,_,_,_,_,hcs,_⟩
  ·
   simp at hcs; exact ⟨_,_,_,hcs⟩
  ·
   simp at hcs; exact ⟨_,_,_,hcs⟩
 obtain ⟨ao',n',c',ws,e,h1,h2,h3,h4⟩:=words_of h
 simp at e
 obtain ⟨rfl,rfl,rfl⟩:=e
 refine ⟨ao,n,c,ws,rfl,h1,h2,h3,h4,fun hx => ?_⟩
 rcases open_slice Tryz.underlying22 h with ⟨hcs,_⟩ | ⟨a,len,cap,mm,nn,D,Pl,hcs,_,_,_,_,rfl,_⟩
 ·
  simp at hcs
  obtain ⟨_,rfl,_⟩:=hcs
  omega
 ·
  simp at hcs
  obtain ⟨_,rfl,_⟩:=hcs
  unfold reachBytes at hx
  have:=hx ((n + (mm - n)) * 16) (by simp [DataW.weights,Tryz.underlying22,bytes_str])
  omega
set_option maxRecDepth 100000 in
theorem open_Card {H:Type} {enc:TypeId × Value→H} {W:World} {r:Reach} {b0:Nat} {v:Value} {d:DataW H} {p:List MemPlace} (hv:Value.okWide Tryz.prog W r b0 32 v)
  (h:DataW.Trod enc Tryz.prog W 0 (fun _ => true) true 32 v d p) (hz:∀ x ∈ d.weights Tryz.prog 32,x≤reachBytes) :
  ∃ (a1 a2 a3:Option Addr) (n1 k1 n2 k2 n3 k3:Nat) (c:Cd),v = cdV c (.slice a1 n1 k1) (.slice a2 n2 k2) (.slice a3 n3 k3)∧CdR W a1 n1 k1 a2 n2 k2 a3 n3 k3 c∧n1≤k1∧k1≤9223372036854775807 ∧
   c.name.length≤9223372036854775807∧c.ref.length≤9223372036854775807∧(∀ x ∈ c.nodes,x.length≤9223372036854775807)∧(n1 + 256) * 16≤140737488355328∧(n2 + 256) * 16≤140737488355328∧(n3 + 256) * 8≤140737488355328:=by
 obtain ⟨cs,rfl,hsz⟩:=okWide_struct Tryz.underlying32 hv
 obtain ⟨c0,c1,c2,c3,c4,c5,c6,c7,rfl⟩:=array8 (hsz.trans cells_card)
 obtain ⟨fuel,hf⟩:=h
 obtain ⟨y0,y1,y2,y3,y4,q,hy,h0,h1,h2,h3,h4⟩:=trod_struct5 (cs:=[c0,c1,c2,c3,c4,c5,c6,c7]) Tryz.underlying32 hf
 simp only [cells_str,List.drop_zero,List.take_succ_cons,List.take_zero] at h0
 simp only [cells_strs,List.drop_succ_cons,List.drop_zero,List.take_succ_cons,List.take_zero] at h1
 simp only [cells_str,List.drop_succ_cons,List.drop_zero,List.take_succ_cons,List.take_zero] at h2
 simp only [cells_num,List.drop_succ_cons,List.drop_zero,List.take_succ_cons,List.take_zero] at h3
 simp only [cells_wave,List.drop_succ_cons,List.drop_zero,List.take_succ_cons,List.take_zero] at h4
 obtain ⟨s0,e0,_,ws0⟩:=DataW.trod_string Tryz.underlying9 h0
 obtain ⟨s2,e2,_,ws2⟩:=DataW.trod_string Tryz.underlying9 h2
 simp at e0 e2
 subst e0 e2
 obtain ⟨m,x,rfl,rfl,_,_⟩:=open_pair h3
 obtain ⟨z0,z1,z2,q',hy4,_,g0,g1,g2⟩:=trod_struct3 (cs:=[c5,c6,c7]) Tryz.underlying30 h4
 simp only [cells_i,List.drop_zero,List.take_succ_cons,List.take_zero] at g0
 simp only [cells_nums,List.drop_succ_cons,List.drop_zero,List.take_succ_cons,List.take_zero] at g1
 simp only [cells_ints,List.drop_succ_cons,List.drop_zero,List.take_succ_cons,List.take_zero] at g2
 obtain ⟨k,e5,_,wk⟩:=DataW.trod_int Tryz.underlying3 g0
 simp at e5
 subst e5
 obtain ⟨a1,n1,k1,l1,rfl,r1,x1,x2,x3,x4⟩:=open_rs h1
 obtain ⟨a2,n2,k2,l2,rfl,r2,y2'⟩:=open_nsl g1
 obtain ⟨a3,n3,k3,l3,rfl,r3,y3'⟩:=open_isl g2
 simp only [Prod.mk.injEq] at hy
 obtain ⟨rfl,_⟩:=hy
 have hy4':y4.1 = .agg [z0.1,z1.1,z2.1]:=by rw [hy4]
 rw [hy4'] at hz
 have hw1:=x4 (fun x hx => hz x (by
  simp only [DataW.weights,Tryz.underlying32,DataW.weightsEach,List.map_cons,List.mem_append]
  exact Or.inr (Or.inl hx)))
 have hw2:=y2' (fun x hx => hz x (by
  simp only [DataW.weights,Tryz.underlying32,Tryz.underlying30,DataW.weightsEach,List.map_cons,List.mem_append]
  exact Or.inr (Or.inr (Or.inr (Or.inr (Or.inl (Or.inr (Or.inl hx))))))))
 have hw3:=y3' (fun x hx => hz x (by
  simp only [DataW.weights,Tryz.underlying32,Tryz.underlying30,DataW.weightsEach,List.map_cons,List.mem_append]
  exact Or.inr (Or.inr (Or.inr (Or.inr (Or.inl (Or.inr (Or.inr (Or.inl hx)))))))))
 refine ⟨a1,a2,a3,n1,k1,n2,k2,n3,k3,⟨s0.data.toList,l1,s2.data.toList,(m,x),k,l2,l3⟩,rfl,⟨r1,r2,r3⟩,x1,x2,?_,?_,x3,hw1,hw2,hw3⟩
 ·
  show s0.data.toList.length≤_
  rw [X.len_list]; unfold maxLen at ws0; omega
 ·
  show s2.data.toList.length≤_
  rw [X.len_list]; unfold maxLen at ws2; omega
end V
end Go.Proofs.YtembglnonhlnkaaGreatDoor

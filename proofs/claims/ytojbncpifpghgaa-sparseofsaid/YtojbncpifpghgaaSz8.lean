/- Lists of structs, systems that came in as arguments. -/
import Derived.Test.YtojbncpifpghgaaGap
import Derived.Test.YtojbncpifpghgaaOpenr
import Derived.Deep.Slices
import Derived.SizedLaws
namespace Go.Proofs.Ytojbncpifpghgaa
open Go.ChangeShapes Go.WideShapes Go.ChangeAt Go.RowKit Go.Joins Go.Deep
namespace Sy
theorem weights_in {H:Type} {P:Program} {e:TypeId} {d:DataW H} {l:List (DataW H)} (h:d ∈ l):∀ x ∈ d.weights P e,x ∈ DataW.weightsAll P e l:=by
 induction l with
 | nil => cases h
 | cons y r ih =>
  intro x hx
  rw [DataW.weightsAll]
  rcases List.mem_cons.1 h with rfl | h2
  ·
   exact List.mem_append_left _ hx
  ·
   exact List.mem_append_right _ (ih h2 x hx)
theorem add_add (b off q j:Nat):((⟨b,off,none⟩:Addr).add q).add j = ⟨b,off + q + j,none⟩:=by
 unfold Addr.add
 by_cases hi0:q = 0 <;> by_cases hj0:j = 0 <;> simp [hi0,hj0]
set_option maxRecDepth 100000 in
theorem open_list {H:Type} {enc:TypeId × Value→H} {W:World} {α:Type} (a0:α) {t e:TypeId} {sz:Nat} {cells:α→List Value} {ok:World→α→Prop} {Q:α→Prop} {fuel:Nat} {c0:Value} {y:DataW H × List MemPlace} (ht:Try.prog.underlying t = some (.slice e)) (hc:Try.prog.cellsOf e = sz) (hs:0 < sz)
  (each:∀ (m:Nat) (cs:List Value) (z:DataW H × List MemPlace),cs.length = sz→DataW.trod enc Try.prog W 0 (fun _ => true) true m e cs = some z→(∀ x ∈ z.1.weights Try.prog e,x≤reachBytes)→∃ a,cs = cells a∧ok W a∧Q a)
  (h:DataW.trod enc Try.prog W 0 (fun _ => true) true fuel t [c0] = some y) (hz:∀ x ∈ y.1.weights Try.prog t,x≤reachBytes) :
  ∃ ao n c,∃ L:List α,c0 = .slice ao n c∧n = L.length∧LR sz cells ok W ao L∧(∀ a ∈ L,Q a)∧n * Try.prog.bytesOf e≤reachBytes:=by
 rcases open_slice ht h with ⟨hcs,hy⟩ | ⟨a,len,cap,mm,nn,D,Pl,hcs,_,hl,hm,hmm,rfl,hx⟩
 ·
  simp at hcs
  subst hcs
  exact ⟨none,0,0,[],rfl,rfl,fun h => absurd h (Nat.lt_irrefl 0),(fun d hd => by cases hd),by rw [Nat.zero_mul]; exact Nat.zero_le _⟩
 ·
  simp at hcs
  subst hcs
  rw [if_pos rfl] at hmm
  simp only [DataW.weights,ht,List.mem_cons,List.mem_append] at hz
  have hby:len * Try.prog.bytesOf e≤reachBytes:=by
   have h1:=hz _ (Or.inl rfl)
   simp only [List.length_map,List.length_range] at h1
   exact Nat.le_trans (Nat.mul_le_mul_right _ (by omega)) h1
  by_cases hN:0 < len
  ·
   have hspot:a.spot = none:=by
    obtain ⟨cs',h1,_⟩:=hx 0 (by omega)
    rw [hc] at h1
    obtain ⟨_,hlen4,hc'⟩:=World.cells?_some h1
    have h0:=hc' 0 (by omega)
    simp [Addr.add] at h0
    exact World.cell?_spot (h0.trans (List.getElem?_eq_getElem (by omega)))
   obtain ⟨b,off,spot⟩:=a
   simp at hspot
   subst hspot
   haveI:Inhabited α:=⟨a0⟩
   obtain ⟨F,hF⟩:=choose_lt (n:=len) (p:=fun i (d:α) => (∀ j u,(cells d)[j]? = some u→W.cell? ⟨b,off + i * sz + j,none⟩ = some u)∧(cells d).length = sz∧ok W d∧Q d) (fun i hi => by
    obtain ⟨cs',h1,h2⟩:=hx i (by omega)
    rw [hc] at h1
    obtain ⟨_,hlen4,hc'⟩:=World.cells?_some h1
    obtain ⟨d,rfl,hok,hq⟩:=each nn cs' (D i,Pl i) hlen4 h2 (fun x hx => hz x (Or.inr (Or.inl (weights_in (List.mem_map.2 ⟨i,List.mem_range.2 hi,rfl⟩) x hx))))
    refine ⟨d,fun j u hu => ?_,hlen4,hok,hq⟩
    have hj:=(List.getElem?_eq_some_iff.1 hu).1
    have cj:=hc' j (by omega)
    rw [add_add] at cj
    rw [cj,hu])
   have hblt:b < W.heap.size:=by
    have hl0:=(hF 0 hN).2.1
    exact World.block_lt_of_cell? W _ ((hF 0 hN).1 0 _ (List.getElem?_eq_getElem (by omega)))
   refine ⟨some ⟨b,off,none⟩,len,cap,(List.range len).map F,rfl,by simp,fun _ => ⟨b,off,rfl,hblt,fun i hi => ?_⟩,fun d hd => ?_,hby⟩
   ·
    have hi':i < len:=by simpa using hi
    have e:((List.range len).map F)[i] = F i:=by simp
    rw [e]
    exact ⟨(hF i hi').1,(hF i hi').2.2.1⟩
   ·
    obtain ⟨i,hi,rfl⟩:=List.mem_map.1 hd
    exact (hF i (List.mem_range.1 hi)).2.2.2
  ·
   obtain rfl:len = 0:=by omega
   exact ⟨some a,0,cap,[],rfl,rfl,fun h => absurd h (Nat.lt_irrefl 0),(fun d hd => by cases hd),hby⟩
theorem struct5 {H:Type} {enc:TypeId × Value→H} {P:Program} {w:World} {base:Nat} {spare:Nat→Bool} {held:Bool} {t:TypeId} {f0 f1 f2 f3 f4:Field} {fuel:Nat} {cs:List Value} {x:DataW H × List MemPlace} (ht:P.underlying t = some (.struct #[f0,f1,f2,f3,f4])) (h:DataW.trod enc P w base spare held fuel t cs = some x) :
  ∃ y0 y1 y2 y3 y4 n,x = (.agg [y0.1,y1.1,y2.1,y3.1,y4.1],y0.2 ++ (y1.2 ++ (y2.2 ++ (y3.2 ++ y4.2))))∧DataW.trod enc P w base spare held n f0.type ((cs.drop f0.offset).take (P.cellsOf f0.type)) = some y0 ∧
   DataW.trod enc P w base spare held n f1.type ((cs.drop f1.offset).take (P.cellsOf f1.type)) = some y1∧DataW.trod enc P w base spare held n f2.type ((cs.drop f2.offset).take (P.cellsOf f2.type)) = some y2 ∧
   DataW.trod enc P w base spare held n f3.type ((cs.drop f3.offset).take (P.cellsOf f3.type)) = some y3∧DataW.trod enc P w base spare held n f4.type ((cs.drop f4.offset).take (P.cellsOf f4.type)) = some y4:=by
 obtain ⟨xs,n,_,rfl,hl,hlen,hf⟩:=DataW.trod_struct ht h
 match xs,hlen with
 | [y0,y1,y2,y3,y4],_ => exact ⟨y0,y1,y2,y3,y4,n,by simp,by simpa using hf 0 f0 rfl,by simpa using hf 1 f1 rfl,by simpa using hf 2 f2 rfl,by simpa using hf 3 f3 rfl,by simpa using hf 4 f4 rfl⟩
def z0:ZE:=⟨false,none,0,[]⟩
def r0:RE:=⟨z0,⟨none,0,[]⟩,⟨none,0,[]⟩,⟨none,0,[]⟩,z0⟩
theorem cells_cell:Try.prog.cellsOf 53 = 3:=by kernel_rfl
theorem cells_cells:Try.prog.cellsOf 29 = 1:=by kernel_rfl
theorem cells_rowt:Try.prog.cellsOf 31 = 7:=by kernel_rfl
theorem cells_rows:Try.prog.cellsOf 22 = 1:=by kernel_rfl
theorem cells_system:Try.prog.cellsOf 24 = 1:=by kernel_rfl
theorem cells_i64:Try.prog.cellsOf 3 = 1:=by kernel_rfl
theorem bytes_cell:Try.prog.bytesOf 53 = 40:=by kernel_rfl
theorem open_ze {H:Type} {enc:TypeId × Value→H} {W:World} {m:Nat} {x0 x1:Value} {z:DataW H × List MemPlace} (h:DataW.trod enc Try.prog W 0 (fun _ => true) true m 28 [x0,x1] = some z):∃ a:ZE,[x0,x1] = a.cells∧a.ok W:=by
 obtain ⟨mm,ao,len,cap,l,rfl,rfl,h1,h2⟩:=open_two h
 have hl:len = l.length:=by obtain ⟨_,_,_,e,_⟩:=h1; simp at e; exact e.2.1
 subst hl
 exact ⟨⟨mm,ao,cap,l⟩,rfl,h1,h2⟩
set_option maxRecDepth 100000 in
theorem open_ce {H:Type} {enc:TypeId × Value→H} {W:World} (m:Nat) (cs:List Value) (z:DataW H × List MemPlace) (hl:cs.length = 3) (h:DataW.trod enc Try.prog W 0 (fun _ => true) true m 53 cs = some z):∃ a:CE,cs = a.cells∧a.ok W:=by
 match cs,hl with
 | [x0,x1,x2],_ =>
  obtain ⟨y0,y1,n,_,_,h0,h1⟩:=trod_struct2 Try.underlying53 h
  simp only [cells_i64,List.drop_zero,List.take_succ_cons,List.take_zero] at h0
  simp only [cells_int,List.drop_succ_cons,List.drop_zero,List.take_succ_cons,List.take_zero] at h1
  obtain ⟨k,e0,_,_⟩:=DataW.trod_int Try.underlying3 h0
  simp at e0
  subst e0
  obtain ⟨a,e,ha⟩:=open_ze h1
  exact ⟨⟨k,a⟩,by show _ = .int .i64 k :: a.cells; rw [← e],ha⟩
set_option maxRecDepth 100000 in
theorem open_le {H:Type} {enc:TypeId × Value→H} {W:World} {m:Nat} {x0:Value} {z:DataW H × List MemPlace} (h:DataW.trod enc Try.prog W 0 (fun _ => true) true m 29 [x0] = some z) (hz:∀ x ∈ z.1.weights Try.prog 29,x≤reachBytes):∃ a:LE,x0 = a.v∧CsR W a.ao a.cs∧a.cs.length≤1000000000000000:=by
 obtain ⟨ao,n,c,L,rfl,rfl,h1,_,h2⟩:=open_list (cells:=CE.cells) (ok:=CE.ok) (Q:=fun _ => True) ⟨0,z0⟩ Try.underlying29 cells_cell (by decide) (fun m cs z hl h _ => by obtain ⟨a,e,ha⟩:=open_ce m cs z hl h; exact ⟨a,e,ha,trivial⟩) h hz
 refine ⟨⟨ao,c,L⟩,rfl,h1,?_⟩
 show L.length≤_
 rw [bytes_cell] at h2
 unfold reachBytes at h2
 omega
set_option maxRecDepth 100000 in
theorem open_re {H:Type} {enc:TypeId × Value→H} {W:World} (m:Nat) (cs:List Value) (z:DataW H × List MemPlace) (hl:cs.length = 7) (h:DataW.trod enc Try.prog W 0 (fun _ => true) true m 31 cs = some z) (hz:∀ x ∈ z.1.weights Try.prog 31,x≤reachBytes):∃ a:RE,cs = a.cells∧a.ok W∧a.A.cs.length≤1000000000000000∧a.H.cs.length≤1000000000000000∧a.S.cs.length≤1000000000000000:=by
 match cs,hl with
 | [x0,x1,x2,x3,x4,x5,x6],_ =>
  obtain ⟨y0,y1,y2,y3,y4,n,hy,h0,h1,h2,h3,h4⟩:=struct5 Try.underlying31 h
  simp only [cells_int,List.drop_zero,List.take_succ_cons,List.take_zero] at h0
  simp only [cells_cells,List.drop_succ_cons,List.drop_zero,List.take_succ_cons,List.take_zero] at h1
  simp only [cells_cells,List.drop_succ_cons,List.drop_zero,List.take_succ_cons,List.take_zero] at h2
  simp only [cells_cells,List.drop_succ_cons,List.drop_zero,List.take_succ_cons,List.take_zero] at h3
  simp only [cells_int,List.drop_succ_cons,List.drop_zero,List.take_succ_cons,List.take_zero] at h4
  subst hy
  simp only [DataW.weights,Try.underlying31,DataW.weightsEach,List.map_cons,List.map_nil,List.mem_append] at hz
  obtain ⟨a0,e0,k0⟩:=open_ze h0
  obtain ⟨a1,e1,k1,b1⟩:=open_le h1 (fun x hx => hz x (Or.inr (Or.inl hx)))
  obtain ⟨a2,e2,k2,b2⟩:=open_le h2 (fun x hx => hz x (Or.inr (Or.inr (Or.inl hx))))
  obtain ⟨a3,e3,k3,b3⟩:=open_le h3 (fun x hx => hz x (Or.inr (Or.inr (Or.inr (Or.inl hx)))))
  obtain ⟨a4,e4,k4⟩:=open_ze h4
  refine ⟨⟨a0,a1,a2,a3,a4⟩,?_,⟨k0,k1,k2,k3,k4⟩,b1,b2,b3⟩
  show _ = a0.cells ++ [a1.v,a2.v,a3.v] ++ a4.cells
  rw [← e0,← e4,← e1,← e2,← e3]
  rfl
set_option maxRecDepth 100000 in
theorem open_System {H:Type} {enc:TypeId × Value→H} {W:World} {r:Reach} {b0:Nat} {v:Value} {d:DataW H} {p:List MemPlace} (hv:Value.okWide Try.prog W r b0 24 v)
  (h:DataW.Trod enc Try.prog W 0 (fun _ => true) true 24 v d p) (hz:∀ x ∈ d.weights Try.prog 24,x≤reachBytes):∃ (ao:Option Addr) (n c:Nat) (rs:List RE),v = .agg #[.slice ao n c]∧n = rs.length∧RsR W ao rs∧∀ r ∈ rs,r.A.cs.length≤1000000000000000∧r.H.cs.length≤1000000000000000∧r.S.cs.length≤1000000000000000:=by
 obtain ⟨cs,rfl,hsz⟩:=okWide_struct Try.underlying24 hv
 obtain ⟨c0,rfl⟩:∃ c0,cs = #[c0]:=by
  have h2:=hsz.trans cells_system
  obtain ⟨l⟩:=cs
  match l,h2 with
  | [x],_ => exact ⟨x,rfl⟩
 obtain ⟨fuel,hf⟩:=h
 obtain ⟨y0,n,hy,_,h0⟩:=trod_struct1 (cs:=[c0]) Try.underlying24 hf
 simp only [cells_rows,List.drop_zero,List.take_succ_cons,List.take_zero] at h0
 simp only [Prod.mk.injEq] at hy
 obtain ⟨rfl,_⟩:=hy
 simp only [DataW.weights,Try.underlying24,DataW.weightsEach,List.map_cons,List.map_nil,List.mem_append] at hz
 obtain ⟨ao,n,c,L,rfl,hl,h1,hq,_⟩:=open_list (cells:=RE.cells) (ok:=RE.ok) (Q:=fun r:RE => r.A.cs.length≤1000000000000000∧r.H.cs.length≤1000000000000000∧r.S.cs.length≤1000000000000000) r0 Try.underlying22 cells_rowt (by decide) (fun m cs z hl h hz => open_re m cs z hl h hz) h0 (fun x hx => hz x (Or.inl hx))
 exact ⟨ao,n,c,L,rfl,hl,h1,hq⟩
end Sy
end Go.Proofs.Ytojbncpifpghgaa

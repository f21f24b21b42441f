/- Lists of structs that came in as arguments: whole numbers, cells, lists of cells. -/
import Derived.Test.YtdcgdpbgnijnpaaGreatGai
import Derived.Test.YtdcgdpbgnijnpaaGreatOpenr
import Derived.Deep.Slices
import Derived.SizedLaws
namespace Go.Proofs.YtdcgdpbgnijnpaaGreat
open Go.ChangeShapes Go.WideShapes Go.ChangeAt Go.RowKit Go.Joins Go.Deep
namespace Sy
theorem weights_in {H:Type} {P:Program} {e:TypeId} {d:DataW H} {l:List (DataW H)} (h:d ∈ l):∀ x ∈ d.weights P e,x ∈ DataW.weightsAll P e l:=by
 induction l with
 | nil => cases h
 | cons y r ih =>
  intro x hx
  rw [DataW.weightsAll]
  rcases List.mem_cons.1 h with rfl | h2
  ·
   exact List.mem_append_left _ hx
  ·
   exact List.mem_append_right _ (ih h2 x hx)
theorem add_add (b off q j:Nat):((⟨b,off,none⟩:Addr).add q).add j = ⟨b,off + q + j,none⟩:=by
 unfold Addr.add
 by_cases hi0:q = 0 <;> by_cases hj0:j = 0 <;> simp [hi0,hj0]
set_option maxRecDepth 100000 in
theorem open_list {H:Type} {enc:TypeId × Value→H} {W:World} {α:Type} (a0:α) {t e:TypeId} {sz:Nat} {cells:α→List Value} {ok:World→α→Prop} {Q:α→Prop} {fuel:Nat} {c0:Value} {y:DataW H × List MemPlace} (ht:Tryz.prog.underlying t = some (.slice e)) (hc:Tryz.prog.cellsOf e = sz) (hs:0 < sz)
  (each:∀ (m:Nat) (cs:List Value) (z:DataW H × List MemPlace),cs.length = sz→DataW.trod enc Tryz.prog W 0 (fun _ => true) true m e cs = some z→(∀ x ∈ z.1.weights Tryz.prog e,x≤reachBytes)→∃ a,cs = cells a∧ok W a∧Q a)
  (h:DataW.trod enc Tryz.prog W 0 (fun _ => true) true fuel t [c0] = some y) (hz:∀ x ∈ y.1.weights Tryz.prog t,x≤reachBytes) :
  ∃ ao n c,∃ L:List α,c0 = .slice ao n c∧n = L.length∧LR sz cells ok W ao L∧(∀ a ∈ L,Q a)∧n * Tryz.prog.bytesOf e≤reachBytes:=by
 rcases open_slice ht h with ⟨hcs,hy⟩ | ⟨a,len,cap,mm,nn,D,Pl,hcs,_,hl,hm,hmm,rfl,hx⟩
 ·
  simp at hcs
  subst hcs
  exact ⟨none,0,0,[],rfl,rfl,fun h => absurd h (Nat.lt_irrefl 0),(fun d hd => by cases hd),by rw [Nat.zero_mul]; exact Nat.zero_le _⟩
 ·
  simp at hcs
  subst hcs
  rw [if_pos rfl] at hmm
  simp only [DataW.weights,ht,List.mem_cons,List.mem_append] at hz
  have hby:len * Tryz.prog.bytesOf e≤reachBytes:=by
   have h1:=hz _ (Or.inl rfl)
   simp only [List.length_map,List.length_range] at h1
   exact Nat.le_trans (Nat.mul_le_mul_right _ (by omega)) h1
  by_cases hN:0 < len
  ·
   have hspot:a.spot = none:=by
    obtain ⟨cs',h1,_⟩:=hx 0 (by omega)
    rw [hc] at h1
    obtain ⟨_,hlen4,hc'⟩:=World.cells?_some h1
    have h0:=hc' 0 (by omega)
    simp [Addr.add] at h0
    exact World.cell?_spot (h0.trans (List.getElem?_eq_getElem (by omega)))
   obtain ⟨b,off,spot⟩:=a
   simp at hspot
   subst hspot
   haveI:Inhabited α:=⟨a0⟩
   obtain ⟨F,hF⟩:=choose_lt (n:=len) (p:=fun i (d:α) => (∀ j u,(cells d)[j]? = some u→W.cell? ⟨b,off + i * sz + j,none⟩ = some u)∧(cells d).length = sz∧ok W d∧Q d) (fun i hi => by
    obtain ⟨cs',h1,h2⟩:=hx i (by omega)
    rw [hc] at h1
    obtain ⟨_,hlen4,hc'⟩:=World.cells?_some h1
    obtain ⟨d,rfl,hok,hq⟩:=each nn cs' (D i,Pl i) hlen4 h2 (fun x hx => hz x (Or.inr (Or.inl (weights_in (List.mem_map.2 ⟨i,List.mem_range.2 hi,rfl⟩) x hx))))
    refine ⟨d,fun j u hu => ?_,hlen4,hok,hq⟩
    have hj:=(List.getElem?_eq_some_iff.1 hu).1
    have cj:=hc' j (by omega)
    rw [add_add] at cj
    rw [cj,hu])
   have hblt:b < W.heap.size:=by
    have hl0:=(hF 0 hN).2.1
    exact World.block_lt_of_cell? W _ ((hF 0 hN).1 0 _ (List.getElem?_eq_getElem (by omega)))
   refine ⟨some ⟨b,off,none⟩,len,cap,(List.range len).map F,rfl,by simp,fun _ => ⟨b,off,rfl,hblt,fun i hi => ?_⟩,fun d hd => ?_,hby⟩
   ·
    have hi':i < len:=by simpa using hi
    have e:((List.range len).map F)[i] = F i:=by simp
    rw [e]
    exact ⟨(hF i hi').1,(hF i hi').2.2.1⟩
   ·
    obtain ⟨i,hi,rfl⟩:=List.mem_map.1 hd
    exact (hF i (List.mem_range.1 hi)).2.2.2
  ·
   obtain rfl:len = 0:=by omega
   exact ⟨some a,0,cap,[],rfl,rfl,fun h => absurd h (Nat.lt_irrefl 0),(fun d hd => by cases hd),hby⟩
def z0:ZE:=⟨false,none,0,[]⟩
theorem cells_cell:Tryz.prog.cellsOf 39 = 3:=by kernel_rfl
theorem cells_cells:Tryz.prog.cellsOf 34 = 1:=by kernel_rfl
theorem cells_i64:Tryz.prog.cellsOf 3 = 1:=by kernel_rfl
theorem bytes_cell:Tryz.prog.bytesOf 39 = 40:=by kernel_rfl
theorem open_ze {H:Type} {enc:TypeId × Value→H} {W:World} {m:Nat} {x0 x1:Value} {z:DataW H × List MemPlace} (h:DataW.trod enc Tryz.prog W 0 (fun _ => true) true m 37 [x0,x1] = some z):∃ a:ZE,[x0,x1] = a.cells∧a.ok W:=by
 obtain ⟨mm,ao,len,cap,l,rfl,rfl,h1,h2⟩:=open_two h
 have hl:len = l.length:=by obtain ⟨_,_,_,e,_⟩:=h1; simp at e; exact e.2.1
 subst hl
 exact ⟨⟨mm,ao,cap,l⟩,rfl,h1,h2⟩
set_option maxRecDepth 100000 in
theorem open_ce {H:Type} {enc:TypeId × Value→H} {W:World} (m:Nat) (cs:List Value) (z:DataW H × List MemPlace) (hl:cs.length = 3) (h:DataW.trod enc Tryz.prog W 0 (fun _ => true) true m 39 cs = some z):∃ a:CE,cs = a.cells∧a.ok W:=by
 match cs,hl with
 | [x0,x1,x2],_ =>
  obtain ⟨y0,y1,n,_,_,h0,h1⟩:=trod_struct2 Tryz.underlying39 h
  simp only [cells_i64,List.drop_zero,List.take_succ_cons,List.take_zero] at h0
  simp only [cells_int,List.drop_succ_cons,List.drop_zero,List.take_succ_cons,List.take_zero] at h1
  obtain ⟨k,e0,_,_⟩:=DataW.trod_int Tryz.underlying3 h0
  simp at e0
  subst e0
  obtain ⟨a,e,ha⟩:=open_ze h1
  exact ⟨⟨k,a⟩,by show _ = .int .i64 k :: a.cells; rw [← e],ha⟩
set_option maxRecDepth 100000 in
theorem open_le {H:Type} {enc:TypeId × Value→H} {W:World} {m:Nat} {x0:Value} {z:DataW H × List MemPlace} (h:DataW.trod enc Tryz.prog W 0 (fun _ => true) true m 34 [x0] = some z) (hz:∀ x ∈ z.1.weights Tryz.prog 34,x≤reachBytes):∃ a:LE,x0 = a.v∧CsR W a.ao a.cs∧a.cs.length≤1000000000000000:=by
 obtain ⟨ao,n,c,L,rfl,rfl,h1,_,h2⟩:=open_list (cells:=CE.cells) (ok:=CE.ok) (Q:=fun _ => True) ⟨0,z0⟩ Tryz.underlying34 cells_cell (by decide) (fun m cs z hl h _ => by obtain ⟨a,e,ha⟩:=open_ce m cs z hl h; exact ⟨a,e,ha,trivial⟩) h hz
 refine ⟨⟨ao,c,L⟩,rfl,h1,?_⟩
 show L.length≤_
 rw [bytes_cell] at h2
 unfold reachBytes at h2
 omega
end Sy
end Go.Proofs.YtdcgdpbgnijnpaaGreat

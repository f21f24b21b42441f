/- How long the lists of a wave that came in may be; a number that came in. -/
import Derived.Test.YtgofinhnlcbafaaGreatVopen
import Derived.SizedLaws
namespace Go.Proofs.YtgofinhnlcbafaaGreat
open Go.ChangeShapes Go.WideShapes Go.ChangeAt Go.RowKit Go.Joins Go.Deep
namespace V
theorem bytes_num:Tryz.prog.bytesOf 39 = 16:=by kernel_rfl
theorem bytes_int:Tryz.prog.bytesOf 3 = 8:=by kernel_rfl
set_option maxRecDepth 100000 in
theorem wave_sized {H:Type} {enc:TypeId × Value→H} {W:World} {k:Int} {a1 a2:Option Addr} {n c m c':Nat} {d:DataW H} {p:List MemPlace}
  (h:DataW.Trod enc Tryz.prog W 0 (fun _ => true) true 25 (.agg #[.int .i64 k,.slice a1 n c,.slice a2 m c']) d p) (hz:∀ x ∈ d.weights Tryz.prog 25,x≤reachBytes) :
  (n + 1) * 16≤140737488355328∧(m + 1) * 8≤140737488355328:=by
 obtain ⟨fuel,hf⟩:=h
 obtain ⟨y0,y1,y2,q,hy,_,h0,h1,h2⟩:=trod_struct3 (cs:=[.int .i64 k,.slice a1 n c,.slice a2 m c']) Tryz.underlying25 hf
 simp only [cells_nums,List.drop_succ_cons,List.drop_zero,List.take_succ_cons,List.take_zero] at h1
 simp only [cells_ints,List.drop_succ_cons,List.drop_zero,List.take_succ_cons,List.take_zero] at h2
 simp only [Prod.mk.injEq] at hy
 obtain ⟨rfl,_⟩:=hy
 have hz1:∀ x ∈ y1.1.weights Tryz.prog 22,x≤reachBytes:=fun x hx => hz x (by
  simp only [DataW.weights,Tryz.underlying25,DataW.weightsEach,List.map_cons,List.mem_append]
  exact Or.inr (Or.inl hx))
 have hz2:∀ x ∈ y2.1.weights Tryz.prog 23,x≤reachBytes:=fun x hx => hz x (by
  simp only [DataW.weights,Tryz.underlying25,DataW.weightsEach,List.map_cons,List.mem_append]
  exact Or.inr (Or.inr (Or.inl hx)))
 unfold reachBytes at hz1 hz2
 constructor
 ·
  rcases open_slice Tryz.underlying22 h1 with ⟨hcs,_⟩ | ⟨a,len,cap,mm,nn,D,Pl,hcs,_,_,_,_,rfl,_⟩
  ·
   simp at hcs
   obtain ⟨_,rfl,_⟩:=hcs
   omega
  ·
   simp at hcs
   obtain ⟨_,rfl,_⟩:=hcs
   have:=hz1 ((n + (mm - n)) * 16) (by simp [DataW.weights,Tryz.underlying22,bytes_num])
   omega
 ·
  rcases open_slice Tryz.underlying23 h2 with ⟨hcs,_⟩ | ⟨a,len,cap,mm,nn,D,Pl,hcs,_,_,_,_,rfl,_⟩
  ·
   simp at hcs
   obtain ⟨_,rfl,_⟩:=hcs
   omega
  ·
   simp at hcs
   obtain ⟨_,rfl,_⟩:=hcs
   have:=hz2 ((m + (mm - m)) * 8) (by simp [DataW.weights,Tryz.underlying23,bytes_int])
   omega
end V
end Go.Proofs.YtgofinhnlcbafaaGreat

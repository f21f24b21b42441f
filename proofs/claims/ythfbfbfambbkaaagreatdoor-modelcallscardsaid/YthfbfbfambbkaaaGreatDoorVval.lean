/- wave.Valid. -/
import Derived.Test.YthfbfbfambbkaaaGreatDoorGam
import Derived.Test.YthfbfbfambbkaaaGreatDoorVb
import Derived.Test.YthfbfbfambbkaaaGreatDoorNval
namespace Go.Proofs.YthfbfbfambbkaaaGreatDoor
open Go.RowKit
namespace V
open Q (hid' Row3 Row2)
theorem any_of_idx {n:Nat} {i:Nat} {p:Nat->Bool} (hi:i<=n) (h1:∀ j,j < i->p j = false) (h2:i < n->p i = true):decide ((0:Int)<=if i = n then -1 else (i:Int)) = (List.range n).any p:=by
 by_cases h:i = n
 ·
  subst h
  rw [if_pos rfl]
  symm
  rw [show decide ((0:Int)<=-1) = false by decide,List.any_eq_false]
  intro j hj
  rw [h1 j (List.mem_range.1 hj)]; simp
 ·
  rw [if_neg h]
  symm
  rw [show decide ((0:Int)<=(i:Int)) = true from decide_eq_true (by omega),List.any_eq_true]
  exact ⟨i,List.mem_range.2 (by omega),h2 (by omega)⟩
theorem any_range {α:Type} (l:List α) (d:α) (p:α->Bool):(List.range l.length).any (fun j => p (l.getD j d)) = l.any p:=by
 rw [Bool.eq_iff_iff,List.any_eq_true,List.any_eq_true]
 constructor
 ·
  rintro ⟨j,hj,hp⟩
  have hj:=List.mem_range.1 hj
  refine ⟨l.getD j d,?_,hp⟩
  rw [List.getD_eq_getElem?_getD,List.getElem?_eq_getElem hj]
  exact List.getElem_mem hj
 ·
  rintro ⟨x,hx,hp⟩
  obtain ⟨j,hj,rfl⟩:=List.getElem_of_mem hx
  refine ⟨j,List.mem_range.2 hj,?_⟩
  rw [List.getD_eq_getElem?_getD,List.getElem?_eq_getElem hj]
  exact hp
set_option maxHeartbeats 4000000 in
theorem con_nums (g:Nat) (lb:Array Value) (p:Int->Int->Bool) (eg:∀ args w,(callFunc g args).run Tryz.prog w = .ok (.enter g args) w) (ao:Option Addr) (n c:Nat) (l:List (Int × Int)) (w:World)
  (hp:∀ W x y,Kept w W->Calls Tryz.prog g (#[.agg #[.int .i64 x,.int .i64 y]] ++ lb) W fun e w' => e = .returned (.bool (p x y))/\Kept w w') (h:NSl w (.slice ao n c) l) (hbig:n<=9223372036854775807) :
  Calls Tryz.prog 85 #[.slice ao n c,.func (.func g) #[] lb] w fun e w' => Kept w w'/\e = .returned (.bool (l.any (fun q => p q.1 q.2))):=by
 have hc:=idx_nums g lb p eg ao n c l w hp h hbig
 have HL:=hid' h.len
 clear hp h
 go_enter Tryz.func85,Tryz.ntmps85
 go_wp2_with fail
 refine hc.mono ?_
 rintro e w' ⟨hk,i,hi,h1,h2,rfl⟩
 have hA:=any_of_idx hi h1 h2
 rw [HL.out] at hA
 rw [any_range l (0,0) (fun q => p q.1 q.2)] at hA
 rw [<- HL.out] at hA
 generalize (if i = n then (-1:Int) else (i:Int)) = z at hA ⊢
 have HA:=hid' hA
 clear hA h1 h2 hi
 go_wp2
 all_goals
  go_ret
  refine ⟨hk,congrArg (fun b => Ending.returned (Value.bool b)) ?_⟩
  rw [<- HA.out]
  try simp_all
end V
end Go.Proofs.YthfbfbfambbkaaaGreatDoor

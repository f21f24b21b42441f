/- Lemmas. -/
import Derived.Test.YthfbfbfambbkaaaGreatDoorGaf
import Derived.Deep.AppendSrc
import Derived.Lib.OwnKind
import Derived.Lib.OthersKept
namespace Go.Proofs.YthfbfbfambbkaaaGreatDoor
open Go.RowKit
theorem Tryz.info5:(Tryz.prog.info? 5).map (fun i => (i.zero,i.size,i.bytes)) = some (some (.int .u8 0),1,1):=by kernel_rfl
def unit (i:Nat):Nat:=100000000 / 10 ^ i
def dg (g k:Nat):List Nat:=(List.range k).map (fun i => 48 + g / unit i % 10)
def bs (l:List Nat):List Value:=l.map (fun x => Value.int .u8 ((x:Nat):Int))
theorem unit_succ (k:Nat):unit k / 10 = unit (k + 1):=by
 unfold unit; rw [Nat.div_div_eq_div_mul,<- Nat.pow_succ]
theorem unit_pos {k:Nat} (h:k<=8):0 < unit k:=by
 unfold unit
 exact Nat.div_pos (Nat.pow_le_pow_right (n:=10) (by decide) h) (Nat.pow_pos (by decide))
theorem unit_nine:unit 9 = 0:=by decide
theorem unit_le (k:Nat):unit k<=100000000:=Nat.div_le_self _ _
theorem dg_succ (g k:Nat):dg g (k + 1) = dg g k ++ [48 + g / unit k % 10]:=by unfold dg; rw [List.range_succ,List.map_append]; rfl
theorem bs_append (a b:List Nat):bs (a ++ b) = bs a ++ bs b:=by simp [bs]
set_option maxRecDepth 100000 in
set_option maxHeartbeats 2000000 in
theorem group_any (B:Nat) (v:Value) (n:Nat) (xs:List Nat) (g:Nat) (w:World) (hg:g < 1000000000) (hown:w.ownsRow B 5 1 v n (bs xs)) (hn:n<=100000) (hB:B<=w.heap.size) :
  Calls Tryz.prog 69 #[v,.int .u32 (g:Int)] w fun e w' => Below B w w'/\Lib.OthersKept 5 none w w'/\∃ v',e = .returned v'/\w'.ownsRow B 5 1 v' (n + 9) (bs (xs ++ dg g 9)):=by
 have HO:Hid (w.ownsRow B 5 1 v n (bs xs)):=hown
 clear hown
 obtain ⟨i0,hi,hz0,hz1,hz2⟩:=info_parts Tryz.info5
 go_enter Tryz.func69,Tryz.ntmps69
 go_wp2
 go_loopw [0,5] (fun vt vu wr => ∃ k:Nat,k<=9/\vu = .int .u32 ((unit k:Nat):Int)/\Hid (wr.ownsRow B 5 1 vt (n + k) (bs (xs ++ dg g k)))/\Hid (Below B w wr/\Lib.OthersKept 5 none w wr)) (fun _ vu _ => (intOf vu).toNat)
 case atStart => exact ⟨0,by omega,rfl,(show World.ownsRow _ _ _ _ _ _ _ by simpa [dg] using HO.out),Below.refl _ _,Lib.OthersKept.refl _ _ _⟩
 case round =>
  obtain ⟨k,hk,rfl,hown,hbel⟩:=hrel
  by_cases hk9:k = 9
  ·
   subst hk9
   rw [unit_nine]
   go_wp2
   go_ret
   exact ⟨hbel.out.1,hbel.out.2,_,rfl,hown.out⟩
  ·
   have hu0:=unit_pos (show k<=8 by omega)
   have hu1:=unit_le k
   have hus:=unit_succ k
   obtain ⟨u,hu⟩:∃ u,u = unit k:=⟨_,rfl⟩
   rw [<- hu] at hu0 hu1 hus ⊢
   have HU:Hid (u = unit k/\u / 10 = unit (k + 1)):=⟨hu,hus⟩
   clear hu hus
   have hq0:0<=(g:Int) / (u:Int):=Int.ediv_nonneg (by omega) (by omega)
   have hq1:(g:Int) / (u:Int) < 1000000000:=by
    have:g / u<=g:=Nat.div_le_self _ _
    rw [<- Int.natCast_ediv]; omega
   have hml:n + k + 1<=maxLen:=by unfold maxLen; omega
   have hsz:B<=(wr.alloc (.cells #[.int .u8 (48 + (g:Int) / (u:Int) % 10)] 5)).heap.size:=by have:=hbel.out.1.size; simp; omega
   go_wp2_with (at_builtin; refine wpList_append_own _ rfl _ _ 105 rfl B 5 i0 (.int .u8 0) 1 1 Tryz.underlying105 hi hz0 hz1 hz2 rfl (by decide) _ _ _ rfl (hown.out.alloc _) ⟨wr.heap.size,0,none⟩ 1 1 [.int .u8 (48 + (g:Int) / (u:Int) % 10)] rfl rfl (cell_new wr _ _) (fun x hx => by simp at hx; subst hx; rfl) (by omega) (by omega) (by exact hsz) ?_)
   intro v' w1 hown' hgrow _
   have HN:Hid (w1.ownsRow B 5 1 v' (n + (k + 1)) (bs (xs ++ dg g (k + 1)))):=by
    show World.ownsRow _ _ _ _ _ _ _
    rw [dg_succ,<- List.append_assoc,bs_append,<- Nat.add_assoc]
    have e:bs [48 + g / unit k % 10] = [.int .u8 (48 + (g:Int) / (u:Int) % 10)]:=by rw [HU.out.1]; simp [bs]
    rw [e]; exact hown'
   have HB:Hid (Below B w w1/\Lib.OthersKept 5 none w w1):=⟨Below.grown (hbel.out.1.alloc (Nat.le_trans hB hbel.out.1.size) _) hgrow (by exact hsz) (fun j hj => (hown.out.lt j hj).1),(hbel.out.2.alloc _).grown hgrow (Lib.ownsRow_kind (hown.out.alloc _))⟩
   clear hown' hgrow hsz
   go_wp2
   go_roundw
   case rel => exact ⟨k + 1,by omega,by rw [<- HU.out.2]; simp,HN.out,HB.out⟩
   case measure => simp [intOf]; omega
end Go.Proofs.YthfbfbfambbkaaaGreatDoor

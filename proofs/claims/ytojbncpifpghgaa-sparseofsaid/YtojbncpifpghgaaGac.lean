/- What a slice of limbs reads as in a world, and the small laws by which that reading goes on. What trim does: the noughts at the top are cut off. Check, Right, wrong: whether a whole number is right. fromWord, Of; Same: whether two whole numbers are the same. signed, answer: a sign and a magnitude as an answer. The sum of two magnitudes. The difference of two magnitudes, the first not below the second. How two trimmed magnitudes are held against one another. The product of two magnitudes. -/
import Derived.Test.YtojbncpifpghgaaProg
import Derived.Test.YtojbncpifpghgaaGaa
import Derived.Test.YtojbncpifpghgaaGab
import Derived.WalkKit
import Derived.WalkSpells
import Derived.WalkLawsBesides
import Derived.Deep.OwnRows
import Derived.Deep.QuietTactic
import Derived.BigQuiet
import Derived.Outline
import Derived.KernelRfl
namespace Go.Proofs.Ytojbncpifpghgaa
open Go.RowKit
def Sl (w:World) (v:Value) (l:List Nat):Prop :=
 M.Bd l∧∃ (ao:Option Addr) (cap:Nat),v = .slice ao l.length cap ∧
  (0 < l.length→l.length≤cap∧∃ b off:Nat,ao = some ⟨b,off,none⟩∧b < w.heap.size∧∀ j,j < l.length→w.cell? ⟨b,off + j,none⟩ = some (.int .u32 ((l.getD j 0:Nat):Int)))
theorem Sl.bd {w:World} {v:Value} {l:List Nat} (h:Sl w v l):M.Bd l:=h.1
theorem Sl.kept {w w':World} {v:Value} {l:List Nat} (h:Sl w v l) (k:Kept w w'):Sl w' v l:=by
 obtain ⟨hb,ao,cap,rfl,hx⟩:=h
 refine ⟨hb,ao,cap,rfl,fun h0 => ?_⟩
 obtain ⟨h1,b,off,rfl,hlt,hc⟩:=hx h0
 refine ⟨h1,b,off,rfl,Nat.lt_of_lt_of_le hlt k.size,fun j hj => ?_⟩
 rw [Below.cell k (p:=⟨b,off + j,none⟩) hlt]
 exact hc j hj
theorem Sl.nil (w:World) (ao:Option Addr) (cap:Nat):Sl w (.slice ao 0 cap) [] :=
 ⟨M.Bd_nil,ao,cap,rfl,fun h => absurd h (by decide)⟩
theorem Sl.of_row {w:World} {b N cap n:Nat} {t:TypeId} {p:List Nat} (h:w.rowIs b t N (fun j => .int .u32 ((p.getD j 0:Nat):Int))) (hp:M.Bd p) (hn:n = p.length) (hN:n≤N) (hc:n≤cap) :
  Sl w (.slice (some ⟨b,0,none⟩) n cap) p:=by
 subst hn
 exact ⟨hp,_,cap,rfl,fun _ => ⟨hc,b,0,rfl,h.lt,fun j hj => by rw [Nat.zero_add]; exact h.cell (by omega)⟩⟩
theorem Sl.drewN {w:World} {v:Value} {l:List Nat} (h:Sl w v l) (n:Nat):Sl (w.drewN n) v l:=h
def New (B:Nat) (w:World) (v:Value) (l:List Nat):Prop :=
 M.Bd l∧((v = .slice none 0 0∧l = []) ∨ ∃ (b N:Nat) (f:Nat→Value),v = .slice (some ⟨b,0,none⟩) l.length N∧B≤b∧l.length≤N∧w.rowIs b 76 N f∧∀ j,j < l.length→f j = .int .u32 ((l.getD j 0:Nat):Int))
theorem New.sl {B:Nat} {w:World} {v:Value} {l:List Nat} (h:New B w v l):Sl w v l:=by
 obtain ⟨hb,⟨rfl,rfl⟩ | ⟨b,N,f,rfl,_,hN,hr,hf⟩⟩:=h
 ·
  exact Sl.nil _ _ _
 ·
  exact ⟨hb,_,N,rfl,fun _ => ⟨hN,b,0,rfl,hr.lt,fun j hj => by rw [Nat.zero_add,hr.cell (by omega),hf j hj]⟩⟩
theorem New.kept {B:Nat} {w w':World} {v:Value} {l:List Nat} (h:New B w v l) (k:Kept w w'):New B w' v l:=by
 obtain ⟨hb,⟨rfl,rfl⟩ | ⟨b,N,f,rfl,hB,hN,hr,hf⟩⟩:=h
 ·
  exact ⟨hb,.inl ⟨rfl,rfl⟩⟩
 ·
  exact ⟨hb,.inr ⟨b,N,f,rfl,hB,hN,hr.of_block (k.block b hr.lt),hf⟩⟩
theorem New.mono {B B':Nat} {w:World} {v:Value} {l:List Nat} (h:New B w v l) (hB:B'≤B):New B' w v l:=by
 obtain ⟨hb,⟨rfl,rfl⟩ | ⟨b,N,f,rfl,h1,hN,hr,hf⟩⟩:=h
 ·
  exact ⟨hb,.inl ⟨rfl,rfl⟩⟩
 ·
  exact ⟨hb,.inr ⟨b,N,f,rfl,by omega,hN,hr,hf⟩⟩
theorem New.nil (B:Nat) (w:World):New B w (.slice none 0 0) []:=⟨M.Bd_nil,.inl ⟨rfl,rfl⟩⟩
theorem New.of_row {B:Nat} {w:World} {b N n:Nat} {p:List Nat} (h:w.rowIs b 76 N (fun j => .int .u32 ((p.getD j 0:Nat):Int))) (hp:M.Bd p) (hn:n = p.length) (hN:n≤N) (hB:B≤b) :
  New B w (.slice (some ⟨b,0,none⟩) n N) p:=by
 subst hn; exact ⟨hp,.inr ⟨b,N,_,rfl,hB,hN,h,fun _ _ => rfl⟩⟩
theorem New.take {B:Nat} {w:World} {b N len:Nat} {l:List Nat} (h:New B w (.slice (some ⟨b,0,none⟩) len N) l) (n:Nat) (hn:n≤l.length) :
  New B w (if n = 0 then .slice none 0 0 else .slice (some ⟨b,0,none⟩) n N) (l.take n):=by
 by_cases h0:n = 0
 ·
  subst h0; rw [if_pos rfl]; exact New.nil _ _
 ·
  rw [if_neg h0]
  obtain ⟨hb,⟨hv,_⟩ | ⟨b',N',f,hv,hB,hN,hr,hf⟩⟩:=h
  ·
   simp at hv
  ·
   simp only [Value.slice.injEq,Option.some.injEq,Addr.mk.injEq] at hv
   obtain ⟨⟨rfl,_,_⟩,rfl,rfl⟩:=hv
   have e1:(l.take n).length = n:=by rw [List.length_take]; omega
   refine ⟨hb.take n,.inr ⟨b,N,f,by rw [e1],hB,by omega,hr,fun j hj => ?_⟩⟩
   rw [e1] at hj
   rw [hf j (by omega),List.getD_eq_getElem?_getD,List.getD_eq_getElem?_getD,List.getElem?_take_of_lt hj]
theorem New.len {B:Nat} {w:World} {ao:Option Addr} {n c:Nat} {l:List Nat} (h:New B w (.slice ao n c) l):n = l.length:=by
 obtain ⟨hb,⟨hv,rfl⟩ | ⟨b',N',f,hv,hB,hN,hr,hf⟩⟩:=h
 ·
  simp at hv; simp [hv]
 ·
  simp at hv; exact hv.2.1
theorem Try.info76:(Try.prog.info? 76).map (fun i => (i.zero,i.size,i.bytes)) = some (some (.int .u32 0),1,4):=by kernel_rfl
theorem make_limbs (n:Nat) (hn:n≤1000000) (w:World) :
  (Instr.makeSlice 26 (.int .i64 (n:Int)) (.int .i64 (n:Int))).run Try.prog w = .ok (.slice (some ⟨w.heap.size,0,none⟩) n n) (w.alloc (.cells (madeCells #[.int .u32 0] n) 76)) :=
 run_make_row' 26 76 (.int .u32 0) 4 Try.underlying26 Try.info76 rfl .i64 .i64 n (by omega) (by omega) w
theorem row_snoc {w:World} {b N:Nat} {p:List Nat} (h:w.rowIs b 76 N (fun j => .int .u32 ((p.getD j 0:Nat):Int))) (k:Nat) (hk:k = p.length) (x:Nat) (y:Int) (hy:y = x) :
  (w.setCell ⟨b,k,none⟩ (.int .u32 y)).rowIs b 76 N (fun j => .int .u32 (((p ++ [x]).getD j 0:Nat):Int)):=by
 subst hy hk
 refine (h.set p.length (.int .u32 x)).congr (fun j _ => ?_)
 rw [M.getD_snoc]
 split <;> rfl
theorem row_made (w:World) (n:Nat):(w.alloc (.cells (madeCells #[.int .u32 0] n) 76)).rowIs w.heap.size 76 n (fun j => .int .u32 ((([]:List Nat).getD j 0:Nat):Int)) :=
 (World.rowIs_made w (.int .u32 0) n 76).congr (fun _ _ => by simp)
theorem New.shape {B:Nat} {w:World} {v:Value} {l:List Nat} (h:New B w v l):∃ ao cap,v = .slice ao l.length cap:=by
 obtain ⟨_,⟨rfl,rfl⟩ | ⟨b,N,f,rfl,_⟩⟩:=h
 ·
  exact ⟨_,_,rfl⟩
 ·
  exact ⟨_,_,rfl⟩
theorem New.other {B:Nat} {w:World} {v:Value} {l:List Nat} (h:New B w v l) {p:Addr} (hp:p.block < B) (u:Value):New B (w.setCell p u) v l:=by
 obtain ⟨hb,⟨rfl,rfl⟩ | ⟨b,N,f,rfl,hB,hN,hr,hf⟩⟩:=h
 ·
  exact ⟨hb,.inl ⟨rfl,rfl⟩⟩
 ·
  exact ⟨hb,.inr ⟨b,N,f,rfl,hB,hN,hr.setOther (by omega) u,hf⟩⟩
theorem getD_set (o:List Nat) (m v j:Nat) (hm:m < o.length):(o.set m v).getD j 0 = if j = m then v else o.getD j 0:=by
 simp only [List.getD_eq_getElem?_getD,List.getElem?_set]
 by_cases h:m = j
 ·
  subst h; simp [hm]
 ·
  rw [if_neg h,if_neg (fun e => h e.symm)]
theorem Bd_set {o:List Nat} (h:M.Bd o) (m v:Nat) (hv:v < 4294967296):M.Bd (o.set m v):=by
 intro x hx
 rcases List.mem_or_eq_of_mem_set hx with h1 | h1
 ·
  exact h x h1
 ·
  omega
theorem Bd_replicate (n:Nat):M.Bd (List.replicate n 0):=by
 intro x hx; rw [List.mem_replicate] at hx; omega
theorem row_set {w:World} {b N:Nat} {o:List Nat} (h:w.rowIs b 76 N (fun j => .int .u32 ((o.getD j 0:Nat):Int))) (m:Nat) (hm:m < o.length) (v:Nat) (y:Int) (hy:y = v) :
  (w.setCell ⟨b,m,none⟩ (.int .u32 y)).rowIs b 76 N (fun j => .int .u32 (((o.set m v).getD j 0:Nat):Int)):=by
 subst hy
 refine (h.set m (.int .u32 v)).congr (fun j _ => ?_)
 rw [getD_set _ _ _ _ hm]
 split <;> rfl
theorem ret_u64 {a b:Int} (h:a = b):Ending.returned (.int .u64 a) = .returned (.int .u64 b):=by rw [h]
theorem ret_i64 {a b:Int} (h:a = b):Ending.returned (.int .i64 a) = .returned (.int .i64 b):=by rw [h]
theorem ret_bool {a b:Bool} (h:a = b):Ending.returned (.bool a) = .returned (.bool b):=by rw [h]
set_option maxHeartbeats 400000 in
theorem limbAt_any {v:Value} {l:List Nat} (w:World) (h:Sl w v l) (i:Int) (h0:0≤i) (hl:l.length≤1000000) :
  Calls Try.prog 45 #[v,.int .i64 i] w fun e w' => e = .returned (.int .u64 ((l.getD i.toNat 0:Nat):Int))∧w' = w:=by
 obtain ⟨hb,ao,cap,rfl,hx⟩:=h
 obtain ⟨k,rfl⟩:=Int.eq_ofNat_of_zero_le h0
 simp only [Int.toNat_natCast]
 have hlt':=hb.getD k
 generalize hz:l.getD k 0 = z at *
 by_cases hk:k < l.length
 ·
  obtain ⟨_,b,off,rfl,_,hc⟩:=hx (by omega)
  have hck:=hc k hk
  rw [hz] at hck
  have HZ:Hid (l.getD k 0 = z):=hz
  clear hc hx hz
  go_enter Try.func45,Try.ntmps45
  go_wp2
  go_ret
  exact ⟨rfl,rfl⟩
 ·
  have hz0:z = 0:=by rw [← hz,List.getD_eq_getElem?_getD,List.getElem?_eq_none (by omega)]; rfl
  clear hz hx
  subst hz0
  go_enter Try.func45,Try.ntmps45
  go_wp2
  go_ret
  exact ⟨rfl,rfl⟩
end Go.Proofs.Ytojbncpifpghgaa

namespace Go.Proofs.Ytojbncpifpghgaa
open Go.RowKit
set_option maxHeartbeats 400000 in
theorem trim_raw (ao:Option Addr) (cap:Nat) (l:List Nat) (w:World) (h:Sl w (.slice ao l.length cap) l) (hl:l.length≤1000000) :
  Calls Try.prog 62 #[.slice ao l.length cap] w fun e w' => w' = w∧∃ n,n≤l.length∧M.Tr (l.take n)∧M.val (l.take n) = M.val l ∧
   e = .returned (if n = 0 then .slice none 0 0 else .slice ao n cap):=by
 obtain ⟨hb,ao',cap',hv,hx⟩:=h
 simp only [Value.slice.injEq,true_and] at hv
 obtain ⟨rfl,rfl⟩:=hv
 obtain ⟨len,hlen⟩:∃ len,len = l.length:=⟨_,rfl⟩
 rw [← hlen] at hx hl ⊢
 have HL:Hid (len = l.length):=hlen
 have HX:Hid (0 < len→len≤cap∧∃ b off:Nat,ao = some ⟨b,off,none⟩∧b < w.heap.size∧∀ j,j < len→w.cell? ⟨b,off + j,none⟩ = some (.int .u32 ((l.getD j 0:Nat):Int))):=hx
 clear hx hlen
 go_enter Try.func62,Try.ntmps62
 go_wp2
 go_loop [3] (fun n => ∃ k:Nat,k≤len∧n = .int .i64 k∧Hid (∀ j,k≤j→l.getD j 0 = 0)) (fun n => (intOf n).toNat)
 case atStart => exact ⟨len,Nat.le_refl _,rfl,fun j hj => by rw [HL.out] at hj; rw [List.getD_eq_getElem?_getD,List.getElem?_eq_none hj]; rfl⟩
 case round =>
  obtain ⟨k,hk,rfl,hz⟩:=hrel
  by_cases h0:k = 0
  ·
   subst h0
   go_wp2
   go_ret
   exact ⟨rfl,0,Nat.zero_le _,Or.inl (by simp),M.val_drop_zero hz.out,by simp⟩
  ·
   obtain ⟨hcap,b,off,rfl,hlt,hc⟩:=HX.out (by omega)
   have hck:=hc (k - 1) (by omega)
   clear HX hc
   have hbd:=hb.getD (k - 1)
   obtain ⟨x,hxe⟩:∃ x,x = l.getD (k - 1) 0:=⟨_,rfl⟩
   rw [← hxe] at hck hbd
   have HXE:Hid (x = l.getD (k - 1) 0):=hxe
   clear hxe
   have h1:1≤k:=by omega
   by_cases hx0:x = 0
   ·
    subst hx0
    go_wp2
    go_round
    case rel => exact ⟨k - 1,by omega,by go_num,fun j hj => by
     by_cases e:j = k - 1
     ·
      rw [e]; exact HXE.out.symm
     ·
      exact hz.out j (by omega)⟩
    case measure => simp [intOf]; omega
   ·
    have hx1:((x:Int) == 0) = false:=by simp; omega
    go_wp2
    go_ret
    refine ⟨rfl,k,hk,Or.inr ?_,M.val_drop_zero hz.out,by rw [if_neg h0]; rfl⟩
    have e1:(l.take k).length = k:=by rw [List.length_take]; have:=HL.out; omega
    rw [e1,List.getD_eq_getElem?_getD,List.getElem?_take_of_lt (by omega),← List.getD_eq_getElem?_getD,← HXE.out]
    exact hx0
theorem Sl.take {w:World} {ao:Option Addr} {cap:Nat} {l:List Nat} (h:Sl w (.slice ao l.length cap) l) (n:Nat) (hn:n≤l.length) :
  Sl w (if n = 0 then .slice none 0 0 else .slice ao n cap) (l.take n):=by
 by_cases h0:n = 0
 ·
  subst h0; rw [if_pos rfl]; exact Sl.nil _ _ _
 ·
  rw [if_neg h0]
  obtain ⟨hb,ao',cap',hv,hx⟩:=h
  simp only [Value.slice.injEq,true_and] at hv
  obtain ⟨rfl,rfl⟩:=hv
  have e1:(l.take n).length = n:=by rw [List.length_take]; omega
  refine ⟨hb.take n,ao,cap,by rw [e1],fun _ => ?_⟩
  obtain ⟨hc,b,off,e,hlt,hcell⟩:=hx (by omega)
  refine ⟨by omega,b,off,e,hlt,fun j hj => ?_⟩
  rw [e1] at hj
  rw [hcell j (by omega),List.getD_eq_getElem?_getD,List.getD_eq_getElem?_getD,List.getElem?_take_of_lt hj]
theorem trim_new {B b N len:Nat} {l:List Nat} (w:World) (h:New B w (.slice (some ⟨b,0,none⟩) len N) l) (hl:l.length≤1000000) :
  Calls Try.prog 62 #[.slice (some ⟨b,0,none⟩) len N] w fun e w' => w' = w∧∃ v' l',e = .returned v'∧New B w v' l'∧M.Tr l'∧M.val l' = M.val l∧l'.length≤l.length:=by
 have e:=h.len
 subst e
 refine (trim_raw _ _ l w h.sl hl).mono ?_
 rintro e w' ⟨rfl,n,hn,ht,hval,rfl⟩
 exact ⟨rfl,_,_,rfl,h.take n hn,ht,hval,by rw [List.length_take]; omega⟩
theorem trim_any {v:Value} {l:List Nat} (w:World) (h:Sl w v l) (hl:l.length≤1000000) :
  Calls Try.prog 62 #[v] w fun e w' => w' = w∧∃ v' l',e = .returned v'∧Sl w v' l'∧M.Tr l'∧M.val l' = M.val l∧l'.length≤l.length:=by
 have h':=h
 obtain ⟨hb,ao,cap,rfl,hx⟩:=h
 refine (trim_raw ao cap l w h' hl).mono ?_
 rintro e w' ⟨rfl,n,hn,ht,hval,rfl⟩
 exact ⟨rfl,_,_,rfl,h'.take n hn,ht,hval,by rw [List.length_take]; omega⟩
end Go.Proofs.Ytojbncpifpghgaa

namespace Go.Proofs.Ytojbncpifpghgaa
open Go.RowKit
def R (neg:Bool) (l:List Nat):Prop:=l.length≤72∧(l.length = 0→neg = false)∧(0 < l.length→l.getD (l.length - 1) 0 ≠ 0)
theorem R.right {neg:Bool} {l:List Nat} (h:R neg l) (hb:M.Bd l):M.Right neg l :=
 ⟨hb,by by_cases h0:l.length = 0; exact .inl h0; exact .inr (h.2.2 (by omega)),h.1,fun e => h.2.1 (by simp [e])⟩
theorem R.of_right {neg:Bool} {l:List Nat} (h:M.Right neg l):R neg l :=
 ⟨h.len,fun e => h.zero (List.length_eq_zero_iff.1 e),fun h0 => by rcases h.tr with h1 | h1; omega; exact h1⟩
theorem R.tr {neg:Bool} {l:List Nat} (h:R neg l):M.Tr l:=by
 by_cases h0:l.length = 0
 ·
  exact .inl h0
 ·
  exact .inr (h.2.2 (by omega))
theorem cell_alloc_old {w:World} {b o:Nat} {v:Value} (hb:b < w.heap.size) (h:w.cell? ⟨b,o,none⟩ = some v) (x:Obj):(w.alloc x).cell? ⟨b,o,none⟩ = some v :=
 (((Below.refl _ w).alloc (Nat.le_refl _) x).cell (p:=⟨b,o,none⟩) hb).trans h
set_option maxHeartbeats 1000000 in
theorem check_yes (neg:Bool) (v:Value) (l:List Nat) (w:World) (h:Sl w v l) (hr:R neg l) :
  Calls Try.prog 38 #[.agg #[.bool neg,v]] w fun e w' => e = .returned (.int .i64 0)∧Kept w w':=by
 obtain ⟨hb,ao,cap,rfl,hx⟩:=h
 obtain ⟨h1,h2,h3⟩:=hr
 by_cases h0:l.length = 0
 ·
  have h2:=h2 h0
  subst h2
  clear hx h3
  obtain ⟨n,hn⟩:∃ n,n = l.length:=⟨_,rfl⟩
  rw [← hn] at h0 h1 ⊢
  subst h0
  clear hn h1
  go_enter Try.func38,Try.ntmps38
  go_wp2
  go_ret
  exact ⟨rfl,(Kept.refl w).alloc _⟩
 ·
  obtain ⟨_,b,off,rfl,hlt,hc⟩:=hx (by omega)
  have hc:=hc (l.length - 1) (by omega)
  have h3:=h3 (by omega)
  have hbd:=hb.getD (l.length - 1)
  obtain ⟨x,hxe⟩:∃ x,x = l.getD (l.length - 1) 0:=⟨_,rfl⟩
  rw [← hxe] at hc h3 hbd
  clear hxe hx h2
  obtain ⟨n,hn⟩:∃ n,n = l.length:=⟨_,rfl⟩
  rw [← hn] at h0 h1 hc ⊢
  have hca:=cell_alloc_old hlt hc
  have h4:1≤n:=by omega
  have hx0:((x:Int) == 0) = false:=by simp; omega
  clear hn hc
  go_enter Try.func38,Try.ntmps38
  go_wp2
  go_ret
  refine ⟨?_,(Kept.refl w).alloc _⟩
  first | rfl | exact ret_bool (by rw [bne,hx0]; rfl)
set_option maxHeartbeats 1000000 in
theorem check_no (neg:Bool) (v:Value) (l:List Nat) (w:World) (h:Sl w v l) (hl:l.length≤9223372036854775807) (hr:¬ R neg l) :
  Calls Try.prog 38 #[.agg #[.bool neg,v]] w fun e w' => e = .returned (.int .i64 10)∧Kept w w':=by
 obtain ⟨hb,ao,cap,rfl,hx⟩:=h
 by_cases h1:72 < l.length
 ·
  clear hx hr
  obtain ⟨n,hn⟩:∃ n,n = l.length:=⟨_,rfl⟩
  rw [← hn] at h1 hl ⊢
  clear hn
  go_enter Try.func38,Try.ntmps38
  go_wp2
  go_ret
  exact ⟨rfl,(Kept.refl w).alloc _⟩
 by_cases h0:l.length = 0
 ·
  have h2:neg = true:=by
   cases neg
   ·
    exact absurd ⟨by omega,fun _ => rfl,fun h => by omega⟩ hr
   ·
    rfl
  subst h2
  clear hx hr h1 hl
  obtain ⟨n,hn⟩:∃ n,n = l.length:=⟨_,rfl⟩
  rw [← hn] at h0 ⊢
  subst h0
  clear hn
  go_enter Try.func38,Try.ntmps38
  go_wp2
  go_ret
  exact ⟨rfl,(Kept.refl w).alloc _⟩
 ·
  obtain ⟨_,b,off,rfl,hlt,hc⟩:=hx (by omega)
  have hc:=hc (l.length - 1) (by omega)
  have h3:l.getD (l.length - 1) 0 = 0:=by
   rcases Nat.eq_zero_or_pos (l.getD (l.length - 1) 0) with h | h
   ·
    exact h
   ·
    exact absurd ⟨by omega,fun h => by omega,fun _ => by omega⟩ hr
  rw [h3] at hc
  clear hx hr h3
  obtain ⟨n,hn⟩:∃ n,n = l.length:=⟨_,rfl⟩
  rw [← hn] at h0 h1 hc hl ⊢
  have hca:=cell_alloc_old hlt hc
  have h4:1≤n:=by omega
  have h5:n≤72:=by omega
  clear hn hc h1
  go_enter Try.func38,Try.ntmps38
  go_wp2
  go_ret
  exact ⟨rfl,(Kept.refl w).alloc _⟩
set_option maxHeartbeats 1000000 in
theorem right_yes (neg:Bool) (v:Value) (l:List Nat) (w:World) (h:Sl w v l) (hr:R neg l) :
  Calls Try.prog 26 #[.agg #[.bool neg,v]] w fun e w' => e = .returned (.bool true)∧Kept w w':=by
 obtain ⟨hb,ao,cap,rfl,hx⟩:=h
 obtain ⟨h1,h2,h3⟩:=hr
 by_cases h0:l.length = 0
 ·
  have h2:=h2 h0
  subst h2
  clear hx h3
  obtain ⟨n,hn⟩:∃ n,n = l.length:=⟨_,rfl⟩
  rw [← hn] at h0 h1 ⊢
  subst h0
  clear hn h1
  go_enter Try.func26,Try.ntmps26
  go_wp2
  go_ret
  exact ⟨rfl,(Kept.refl w).alloc _⟩
 ·
  obtain ⟨_,b,off,rfl,hlt,hc⟩:=hx (by omega)
  have hc:=hc (l.length - 1) (by omega)
  have h3:=h3 (by omega)
  have hbd:=hb.getD (l.length - 1)
  obtain ⟨x,hxe⟩:∃ x,x = l.getD (l.length - 1) 0:=⟨_,rfl⟩
  rw [← hxe] at hc h3 hbd
  clear hxe hx h2
  obtain ⟨n,hn⟩:∃ n,n = l.length:=⟨_,rfl⟩
  rw [← hn] at h0 h1 hc ⊢
  have hca:=cell_alloc_old hlt hc
  have h4:1≤n:=by omega
  have hx0:((x:Int) == 0) = false:=by simp; omega
  clear hn hc
  go_enter Try.func26,Try.ntmps26
  go_wp2
  go_ret
  refine ⟨?_,(Kept.refl w).alloc _⟩
  first | rfl | exact ret_bool (by rw [bne,hx0]; rfl)
set_option maxHeartbeats 1000000 in
theorem right_no (neg:Bool) (v:Value) (l:List Nat) (w:World) (h:Sl w v l) (hl:l.length≤9223372036854775807) (hr:¬ R neg l) :
  Calls Try.prog 26 #[.agg #[.bool neg,v]] w fun e w' => e = .returned (.bool false)∧Kept w w':=by
 obtain ⟨hb,ao,cap,rfl,hx⟩:=h
 by_cases h1:72 < l.length
 ·
  clear hx hr
  obtain ⟨n,hn⟩:∃ n,n = l.length:=⟨_,rfl⟩
  rw [← hn] at h1 hl ⊢
  clear hn
  go_enter Try.func26,Try.ntmps26
  go_wp2
  go_ret
  exact ⟨rfl,(Kept.refl w).alloc _⟩
 by_cases h0:l.length = 0
 ·
  have h2:neg = true:=by
   cases neg
   ·
    exact absurd ⟨by omega,fun _ => rfl,fun h => by omega⟩ hr
   ·
    rfl
  subst h2
  clear hx hr h1 hl
  obtain ⟨n,hn⟩:∃ n,n = l.length:=⟨_,rfl⟩
  rw [← hn] at h0 ⊢
  subst h0
  clear hn
  go_enter Try.func26,Try.ntmps26
  go_wp2
  go_ret
  exact ⟨rfl,(Kept.refl w).alloc _⟩
 ·
  obtain ⟨_,b,off,rfl,hlt,hc⟩:=hx (by omega)
  have hc:=hc (l.length - 1) (by omega)
  have h3:l.getD (l.length - 1) 0 = 0:=by
   rcases Nat.eq_zero_or_pos (l.getD (l.length - 1) 0) with h | h
   ·
    exact h
   ·
    exact absurd ⟨by omega,fun h => by omega,fun _ => by omega⟩ hr
  rw [h3] at hc
  clear hx hr h3
  obtain ⟨n,hn⟩:∃ n,n = l.length:=⟨_,rfl⟩
  rw [← hn] at h0 h1 hc hl ⊢
  have hca:=cell_alloc_old hlt hc
  have h4:1≤n:=by omega
  have h5:n≤72:=by omega
  clear hn hc h1
  go_enter Try.func26,Try.ntmps26
  go_wp2
  go_ret
  exact ⟨rfl,(Kept.refl w).alloc _⟩
theorem Kept.cells {W w1:World} (h:Kept W w1):∀ b o,b < W.heap.size→w1.cell? ⟨b,o,none⟩ = W.cell? ⟨b,o,none⟩:=fun b o hb => Below.cell h (p:=⟨b,o,none⟩) hb
theorem Kept.frozens {W w1:World} (h:Kept W w1):∀ b o,b < W.heap.size→w1.frozen? ⟨b,o,none⟩ = W.frozen? ⟨b,o,none⟩:=fun b o hb => Below.frozen h (p:=⟨b,o,none⟩) hb
theorem cell_kept {W W':World} (h:Kept W W') {b o:Nat} {v:Value} (hc:W.cell? ⟨b,o,none⟩ = some v):W'.cell? ⟨b,o,none⟩ = some v :=
 (h.cell (p:=⟨b,o,none⟩) (World.block_lt_of_cell? W _ hc)).trans hc
set_option maxHeartbeats 1000000 in
theorem wrong_no (m n:Bool) (va vb:Value) (a b:List Nat) (w:World) (ha:Sl w va a) (hb:Sl w vb b) (hra:R m a) (hrb:R n b) :
  Calls Try.prog 46 #[.agg #[.bool m,va],.agg #[.bool n,vb]] w fun e w' => e = .returned (.bool false)∧Kept w w':=by
 go_enter Try.func46,Try.ntmps46
 go_wp2_with fail
 refine (check_yes m va a _ (ha.kept (((Kept.refl w).alloc _).alloc _)) hra).mono ?_
 rintro e w1 ⟨rfl,hk⟩
 have hc:=hk.cells
 have HK:Hid (Kept w w1):=(((Kept.refl w).alloc _).alloc _).trans hk
 clear hk
 go_wp2_with fail
 refine (check_yes n vb b _ (hb.kept HK.out) hrb).mono ?_
 rintro e w2 ⟨rfl,hk2⟩
 have HK2:Hid (Kept w w2):=HK.out.trans hk2
 clear hk2 hc
 go_wp2
 go_ret
 exact ⟨rfl,HK2.out⟩
end Go.Proofs.Ytojbncpifpghgaa

namespace Go.Proofs.Ytojbncpifpghgaa
open Go.RowKit
theorem row_two (w:World) (x y:Nat):(w.alloc (.cells #[.int .u32 (x:Int),.int .u32 (y:Int)] 76)).rowIs w.heap.size 76 2 (fun j => .int .u32 ((([x,y]:List Nat).getD j 0:Nat):Int)):=by
 refine World.rowIs_alloc w _ 76 _ (fun i hi => ?_)
 simp at hi
 match i,hi with
 | 0,_ => rfl
 | 1,_ => rfl
set_option maxHeartbeats 1000000 in
theorem fromWord_any (x:Nat) (w:World) (hx:x < 18446744073709551616) :
  Calls Try.prog 56 #[.int .u64 (x:Int)] w fun e w' => Kept w w'∧∃ v' l',e = .returned v'∧New w.heap.size w' v' l'∧M.Tr l'∧M.val l' = x∧l'.length≤2:=by
 have hnew:New w.heap.size (w.alloc (.cells #[.int .u32 ((x:Int) % 4294967296),.int .u32 ((x:Int) / 4294967296)] 76)) (.slice (some ⟨w.heap.size,0,none⟩) 2 2) [x % 4294967296,x / 4294967296]:=by
  have e1:(x:Int) % 4294967296 = ((x % 4294967296:Nat):Int):=by omega
  have e2:(x:Int) / 4294967296 = ((x / 4294967296:Nat):Int):=by omega
  rw [e1,e2]
  refine New.of_row (row_two w _ _) (fun y hy => ?_) rfl (by omega) (Nat.le_refl _)
  simp at hy; omega
 have HN:Hid (New w.heap.size (w.alloc (.cells #[.int .u32 ((x:Int) % 4294967296),.int .u32 ((x:Int) / 4294967296)] 76)) (.slice (some ⟨w.heap.size,0,none⟩) 2 2) [x % 4294967296,x / 4294967296]):=hnew
 clear hnew
 go_enter Try.func56,Try.ntmps56
 go_wp2_with fail
 refine (trim_new _ HN.out (by simp)).mono ?_
 rintro e w1 ⟨rfl,v',l',rfl,hn',ht',hv',hl'⟩
 have HR:Hid (New w.heap.size (w.alloc (.cells #[.int .u32 ((x:Int) % 4294967296),.int .u32 ((x:Int) / 4294967296)] 76)) v' l'∧M.Tr l'∧M.val l' = x∧l'.length≤2):=⟨hn',ht',by rw [hv']; simp [M.val]; omega,hl'⟩
 clear hn' ht' hv' hl' HN
 go_wp2
 go_ret
 exact ⟨(Kept.refl w).alloc _,v',l',rfl,HR.out⟩
end Go.Proofs.Ytojbncpifpghgaa

namespace Go.Proofs.Ytojbncpifpghgaa
open Go.RowKit
set_option maxHeartbeats 1000000 in
theorem signed_any (neg:Bool) (ao:Option Addr) (n cap:Nat) (w:World) (hn:n≤1000000) :
  Calls Try.prog 47 #[.bool neg,.slice ao n cap] w fun e w' => e = .returned (.agg #[.bool (neg && decide (0 < n)),.slice ao n cap])∧Kept w w':=by
 cases neg with
 | false =>
  go_enter Try.func47,Try.ntmps47
  go_wp2
  exact bodyPost_ret (v:=.agg #[.bool false,.slice ao n cap]) (by simp [results,Try.results47,go_sem]) rfl ⟨by simp,(Kept.refl w).alloc _⟩
 | true =>
  by_cases h0:0 < n
  ·
   go_enter Try.func47,Try.ntmps47
   go_wp2
   exact bodyPost_ret (v:=.agg #[.bool true,.slice ao n cap]) (by simp [results,Try.results47,go_sem]) rfl ⟨by simp [h0],(Kept.refl w).alloc _⟩
  ·
   have e:n = 0:=by omega
   subst e
   go_enter Try.func47,Try.ntmps47
   go_wp2
   exact bodyPost_ret (v:=.agg #[.bool false,.slice ao 0 cap]) (by simp [results,Try.results47,go_sem]) rfl ⟨by simp,(Kept.refl w).alloc _⟩
end Go.Proofs.Ytojbncpifpghgaa

namespace Go.Proofs.Ytojbncpifpghgaa
open Go.RowKit
end Go.Proofs.Ytojbncpifpghgaa

namespace Go.Proofs.Ytojbncpifpghgaa
open Go.RowKit
end Go.Proofs.Ytojbncpifpghgaa

namespace Go.Proofs.Ytojbncpifpghgaa
open Go.RowKit
def sgn (m n:Nat):Int:=if m < n then -1 else if m = n then 0 else 1
theorem val_lt_of_top {a b:List Nat} {k:Nat} (ha:M.Bd a) (hk:0 < k) (hka:k≤a.length) (hl:a.length = b.length) (hd:a.drop k = b.drop k) (h:a.getD (k - 1) 0 < b.getD (k - 1) 0):M.val a < M.val b:=by
 rw [M.take_drop_val a (k - 1) (by omega),M.take_drop_val b (k - 1) (by omega),M.drop_getD a (k - 1) (by omega),M.drop_getD b (k - 1) (by omega)]
 rw [show k - 1 + 1 = k by omega,hd]
 have h1:=M.val_lt (ha.take (k - 1))
 rw [List.length_take,Nat.min_eq_left (by omega)] at h1
 have h2:4294967296 ^ (k - 1) * (a.getD (k - 1) 0 + 1 + 4294967296 * M.val (b.drop k))≤4294967296 ^ (k - 1) * (b.getD (k - 1) 0 + 4294967296 * M.val (b.drop k)):=Nat.mul_le_mul_left _ (by omega)
 have h3:4294967296 ^ (k - 1) * (a.getD (k - 1) 0 + 1 + 4294967296 * M.val (b.drop k)) = 4294967296 ^ (k - 1) * (a.getD (k - 1) 0 + 4294967296 * M.val (b.drop k)) + 4294967296 ^ (k - 1):=by
  rw [Nat.mul_add,Nat.mul_add,Nat.mul_add]; omega
 omega
theorem val_lt_of_len {a b:List Nat} (ha:M.Bd a) (hb:M.Tr b) (h:a.length < b.length):M.val a < M.val b:=by
 rcases Nat.lt_or_ge (M.val a) (M.val b) with h1 | h1
 ·
  exact h1
 ·
  have:=M.len_le_of_val_le hb ha h1; omega
theorem drop_pred {a b:List Nat} {k:Nat} (hk:0 < k) (hka:k≤a.length) (hl:a.length = b.length) (hd:a.drop k = b.drop k) (h:a.getD (k - 1) 0 = b.getD (k - 1) 0):a.drop (k - 1) = b.drop (k - 1):=by
 rw [List.drop_eq_getElem_cons (l:=a) (i:=k - 1) (by omega),List.drop_eq_getElem_cons (l:=b) (i:=k - 1) (by omega),show k - 1 + 1 = k by omega,hd]
 rw [List.getD_eq_getElem?_getD,List.getD_eq_getElem?_getD,List.getElem?_eq_getElem (by omega),List.getElem?_eq_getElem (by omega)] at h
 simp at h
 rw [h]
set_option maxHeartbeats 1000000 in
theorem compare_any (va vb:Value) (a b:List Nat) (w:World) (ha:Sl w va a) (hb:Sl w vb b) (_hla:a.length≤1000) (hlb:b.length≤1000) (ta:M.Tr a) (tb:M.Tr b) :
  Calls Try.prog 49 #[va,vb] w fun e w' => e = .returned (.int .i64 (sgn (M.val a) (M.val b)))∧∃ n,w' = w.drewN n:=by
 obtain ⟨bda,aoa,capa,rfl,hxa⟩:=ha
 obtain ⟨bdb,aob,capb,rfl,hxb⟩:=hb
 rcases Nat.lt_trichotomy a.length b.length with hl | hl | hl
 ·
  have e:sgn (M.val a) (M.val b) = -1:=by unfold sgn; rw [if_pos (val_lt_of_len bda tb hl)]
  rw [e]
  clear hxa hxb e
  go_enter Try.func49,Try.ntmps49
  go_wp2
  go_ret
  exact ⟨rfl,0,rfl⟩
 ·
  obtain ⟨n,hn⟩:∃ n,n = a.length:=⟨_,rfl⟩
  have hn2:n = b.length:=by omega
  rw [← hn] at hxa _hla ⊢
  rw [← hn2] at hxb hlb ⊢
  have HA:Hid (_):=hxa
  have HB:Hid (_):=hxb
  have HN:Hid (n = a.length∧n = b.length):=⟨hn,hn2⟩
  obtain ⟨r,hr⟩:∃ r,r = sgn (M.val a) (M.val b):=⟨_,rfl⟩
  rw [← hr]
  have HR:Hid (r = sgn (M.val a) (M.val b)):=hr
  clear hxa hxb hn hn2 hl ta tb hr
  go_enter Try.func49,Try.ntmps49
  go_wp2
  go_loopw [5] (fun vi wr => ∃ k m:Nat,k≤n∧vi = .int .i64 ((k:Int) - 1)∧Hid (a.drop k = b.drop k)∧wr = w.drewN m) (fun vi _ => (intOf vi + 1).toNat)
  case atStart => exact ⟨n,0,Nat.le_refl _,rfl,by show a.drop n = b.drop n; rw [List.drop_of_length_le (by rw [HN.out.1]; exact Nat.le_refl _),List.drop_of_length_le (by rw [HN.out.2]; exact Nat.le_refl _)],rfl⟩
  case round =>
   obtain ⟨k,m,hk,rfl,hd,rfl⟩:=hrel
   by_cases h0:k = 0
   ·
    subst h0
    go_wp2
    go_ret
    refine ⟨?_,m,rfl⟩
    have e:a = b:=by simpa using hd.out
    rw [HR.out,e]; simp [sgn]
   ·
    obtain ⟨_,ba,oa,rfl,_,hca⟩:=HA.out (by omega)
    obtain ⟨_,bb,ob,rfl,_,hcb⟩:=HB.out (by omega)
    have hca:=hca (k - 1) (by omega)
    have hcb:=hcb (k - 1) (by omega)
    have hba:=bda.getD (k - 1)
    have hbb:=bdb.getD (k - 1)
    obtain ⟨x,hx⟩:∃ x,x = a.getD (k - 1) 0:=⟨_,rfl⟩
    obtain ⟨y,hy⟩:∃ y,y = b.getD (k - 1) 0:=⟨_,rfl⟩
    rw [← hx] at hca hba
    rw [← hy] at hcb hbb
    have HX:Hid (x = a.getD (k - 1) 0):=hx
    have HY:Hid (y = b.getD (k - 1) 0):=hy
    clear hx hy HA HB
    have h1:1≤k:=by omega
    rcases Nat.lt_trichotomy x y with hxy | hxy | hxy
    ·
     go_wp2
     go_quiet (fail)
     go_wp2
     go_ret
     refine ⟨ret_i64 ?_,_,by rw [World.drewN_drewN]⟩
     rw [HR.out,sgn,if_pos (val_lt_of_top bda h1 (by rw [← HN.out.1]; exact hk) (by rw [← HN.out.1,← HN.out.2]) hd.out (by rw [← HX.out,← HY.out]; exact hxy))]
    ·
     subst hxy
     go_wp2
     go_quiet (fail)
     go_wp2
     go_quiet (fail)
     go_wp2
     go_roundw
     case rel => exact ⟨k - 1,_,by omega,by go_num,drop_pred h1 (by rw [← HN.out.1]; exact hk) (by rw [← HN.out.1,← HN.out.2]) hd.out (by rw [← HX.out,← HY.out]),rfl⟩
     case measure => simp [intOf]; omega
    ·
     go_wp2
     go_quiet (fail)
     go_wp2
     go_quiet (fail)
     go_wp2
     go_ret
     refine ⟨ret_i64 ?_,_,by rw [World.drewN_drewN,World.drewN_drewN]⟩
     have h2:=val_lt_of_top bdb h1 (by rw [← HN.out.2]; exact hk) (by rw [← HN.out.1,← HN.out.2]) hd.out.symm (by rw [← HX.out,← HY.out]; exact hxy)
     rw [HR.out,sgn,if_neg (by omega),if_neg (by omega)]
 ·
  have e:sgn (M.val a) (M.val b) = 1:=by have:=val_lt_of_len bdb ta hl; unfold sgn; rw [if_neg (by omega),if_neg (by omega)]
  rw [e]
  clear hxa hxb e
  go_enter Try.func49,Try.ntmps49
  go_wp2
  go_ret
  exact ⟨rfl,0,rfl⟩
end Go.Proofs.Ytojbncpifpghgaa

namespace Go.Proofs.Ytojbncpifpghgaa
open Go.RowKit
end Go.Proofs.Ytojbncpifpghgaa

/- What a slice of limbs reads as in a world, and the small laws by which that reading goes on. Check, Right, wrong: whether a whole number is right. What trim does: the noughts at the top are cut off. fromWord, Of; Same: whether two whole numbers are the same. How two trimmed magnitudes are held against one another. signed, answer: a sign and a magnitude as an answer. The sum of two magnitudes. The difference of two magnitudes, the first not below the second. The product of two magnitudes. -/
import Derived.Test.YtdcgdpbgnijnpaaGreatProg
import Derived.Test.YtdcgdpbgnijnpaaGreatGaa
import Derived.Test.YtdcgdpbgnijnpaaGreatGab
import Derived.WalkKit
import Derived.WalkSpells
import Derived.WalkLawsBesides
import Derived.Deep.OwnRows
import Derived.Deep.QuietTactic
import Derived.BigQuiet
import Derived.Outline
import Derived.KernelRfl
namespace Go.Proofs.YtdcgdpbgnijnpaaGreat
open Go.RowKit
def Sl (w:World) (v:Value) (l:List Nat):Prop :=
 M.Bd l∧∃ (ao:Option Addr) (cap:Nat),v = .slice ao l.length cap ∧
  (0 < l.length→l.length≤cap∧∃ b off:Nat,ao = some ⟨b,off,none⟩∧b < w.heap.size∧∀ j,j < l.length→w.cell? ⟨b,off + j,none⟩ = some (.int .u32 ((l.getD j 0:Nat):Int)))
theorem Sl.bd {w:World} {v:Value} {l:List Nat} (h:Sl w v l):M.Bd l:=h.1
theorem Sl.kept {w w':World} {v:Value} {l:List Nat} (h:Sl w v l) (k:Kept w w'):Sl w' v l:=by
 obtain ⟨hb,ao,cap,rfl,hx⟩:=h
 refine ⟨hb,ao,cap,rfl,fun h0 => ?_⟩
 obtain ⟨h1,b,off,rfl,hlt,hc⟩:=hx h0
 refine ⟨h1,b,off,rfl,Nat.lt_of_lt_of_le hlt k.size,fun j hj => ?_⟩
 rw [Below.cell k (p:=⟨b,off + j,none⟩) hlt]
 exact hc j hj
theorem Sl.nil (w:World) (ao:Option Addr) (cap:Nat):Sl w (.slice ao 0 cap) [] :=
 ⟨M.Bd_nil,ao,cap,rfl,fun h => absurd h (by decide)⟩
theorem Sl.of_row {w:World} {b N cap n:Nat} {t:TypeId} {p:List Nat} (h:w.rowIs b t N (fun j => .int .u32 ((p.getD j 0:Nat):Int))) (hp:M.Bd p) (hn:n = p.length) (hN:n≤N) (hc:n≤cap) :
  Sl w (.slice (some ⟨b,0,none⟩) n cap) p:=by
 subst hn
 exact ⟨hp,_,cap,rfl,fun _ => ⟨hc,b,0,rfl,h.lt,fun j hj => by rw [Nat.zero_add]; exact h.cell (by omega)⟩⟩
theorem Sl.drewN {w:World} {v:Value} {l:List Nat} (h:Sl w v l) (n:Nat):Sl (w.drewN n) v l:=h
def New (B:Nat) (w:World) (v:Value) (l:List Nat):Prop :=
 M.Bd l∧((v = .slice none 0 0∧l = []) ∨ ∃ (b N:Nat) (f:Nat→Value),v = .slice (some ⟨b,0,none⟩) l.length N∧B≤b∧l.length≤N∧w.rowIs b 40 N f∧∀ j,j < l.length→f j = .int .u32 ((l.getD j 0:Nat):Int))
theorem New.sl {B:Nat} {w:World} {v:Value} {l:List Nat} (h:New B w v l):Sl w v l:=by
 obtain ⟨hb,⟨rfl,rfl⟩ | ⟨b,N,f,rfl,_,hN,hr,hf⟩⟩:=h
 ·
  exact Sl.nil _ _ _
 ·
  exact ⟨hb,_,N,rfl,fun _ => ⟨hN,b,0,rfl,hr.lt,fun j hj => by rw [Nat.zero_add,hr.cell (by omega),hf j hj]⟩⟩
theorem New.kept {B:Nat} {w w':World} {v:Value} {l:List Nat} (h:New B w v l) (k:Kept w w'):New B w' v l:=by
 obtain ⟨hb,⟨rfl,rfl⟩ | ⟨b,N,f,rfl,hB,hN,hr,hf⟩⟩:=h
 ·
  exact ⟨hb,.inl ⟨rfl,rfl⟩⟩
 ·
  exact ⟨hb,.inr ⟨b,N,f,rfl,hB,hN,hr.of_block (k.block b hr.lt),hf⟩⟩
theorem New.mono {B B':Nat} {w:World} {v:Value} {l:List Nat} (h:New B w v l) (hB:B'≤B):New B' w v l:=by
 obtain ⟨hb,⟨rfl,rfl⟩ | ⟨b,N,f,rfl,h1,hN,hr,hf⟩⟩:=h
 ·
  exact ⟨hb,.inl ⟨rfl,rfl⟩⟩
 ·
  exact ⟨hb,.inr ⟨b,N,f,rfl,by omega,hN,hr,hf⟩⟩
theorem New.nil (B:Nat) (w:World):New B w (.slice none 0 0) []:=⟨M.Bd_nil,.inl ⟨rfl,rfl⟩⟩
theorem New.of_row {B:Nat} {w:World} {b N n:Nat} {p:List Nat} (h:w.rowIs b 40 N (fun j => .int .u32 ((p.getD j 0:Nat):Int))) (hp:M.Bd p) (hn:n = p.length) (hN:n≤N) (hB:B≤b) :
  New B w (.slice (some ⟨b,0,none⟩) n N) p:=by
 subst hn; exact ⟨hp,.inr ⟨b,N,_,rfl,hB,hN,h,fun _ _ => rfl⟩⟩
theorem New.take {B:Nat} {w:World} {b N len:Nat} {l:List Nat} (h:New B w (.slice (some ⟨b,0,none⟩) len N) l) (n:Nat) (hn:n≤l.length) :
  New B w (if n = 0 then .slice none 0 0 else .slice (some ⟨b,0,none⟩) n N) (l.take n):=by
 by_cases h0:n = 0
 ·
  subst h0; rw [if_pos rfl]; exact New.nil _ _
 ·
  rw [if_neg h0]
  obtain ⟨hb,⟨hv,_⟩ | ⟨b',N',f,hv,hB,hN,hr,hf⟩⟩:=h
  ·
   simp at hv
  ·
   simp only [Value.slice.injEq,Option.some.injEq,Addr.mk.injEq] at hv
   obtain ⟨⟨rfl,_,_⟩,rfl,rfl⟩:=hv
   have e1:(l.take n).length = n:=by rw [List.length_take]; omega
   refine ⟨hb.take n,.inr ⟨b,N,f,by rw [e1],hB,by omega,hr,fun j hj => ?_⟩⟩
   rw [e1] at hj
   rw [hf j (by omega),List.getD_eq_getElem?_getD,List.getD_eq_getElem?_getD,List.getElem?_take_of_lt hj]
theorem New.len {B:Nat} {w:World} {ao:Option Addr} {n c:Nat} {l:List Nat} (h:New B w (.slice ao n c) l):n = l.length:=by
 obtain ⟨hb,⟨hv,rfl⟩ | ⟨b',N',f,hv,hB,hN,hr,hf⟩⟩:=h
 ·
  simp at hv; simp [hv]
 ·
  simp at hv; exact hv.2.1
theorem Tryz.info40:(Tryz.prog.info? 40).map (fun i => (i.zero,i.size,i.bytes)) = some (some (.int .u32 0),1,4):=by kernel_rfl
theorem make_limbs (n:Nat) (hn:n≤1000000) (w:World) :
  (Instr.makeSlice 35 (.int .i64 (n:Int)) (.int .i64 (n:Int))).run Tryz.prog w = .ok (.slice (some ⟨w.heap.size,0,none⟩) n n) (w.alloc (.cells (madeCells #[.int .u32 0] n) 40)) :=
 run_make_row' 35 40 (.int .u32 0) 4 Tryz.underlying35 Tryz.info40 rfl .i64 .i64 n (by omega) (by omega) w
theorem row_snoc {w:World} {b N:Nat} {p:List Nat} (h:w.rowIs b 40 N (fun j => .int .u32 ((p.getD j 0:Nat):Int))) (k:Nat) (hk:k = p.length) (x:Nat) (y:Int) (hy:y = x) :
  (w.setCell ⟨b,k,none⟩ (.int .u32 y)).rowIs b 40 N (fun j => .int .u32 (((p ++ [x]).getD j 0:Nat):Int)):=by
 subst hy hk
 refine (h.set p.length (.int .u32 x)).congr (fun j _ => ?_)
 rw [M.getD_snoc]
 split <;> rfl
theorem row_made (w:World) (n:Nat):(w.alloc (.cells (madeCells #[.int .u32 0] n) 40)).rowIs w.heap.size 40 n (fun j => .int .u32 ((([]:List Nat).getD j 0:Nat):Int)) :=
 (World.rowIs_made w (.int .u32 0) n 40).congr (fun _ _ => by simp)
theorem New.shape {B:Nat} {w:World} {v:Value} {l:List Nat} (h:New B w v l):∃ ao cap,v = .slice ao l.length cap:=by
 obtain ⟨_,⟨rfl,rfl⟩ | ⟨b,N,f,rfl,_⟩⟩:=h
 ·
  exact ⟨_,_,rfl⟩
 ·
  exact ⟨_,_,rfl⟩
theorem New.other {B:Nat} {w:World} {v:Value} {l:List Nat} (h:New B w v l) {p:Addr} (hp:p.block < B) (u:Value):New B (w.setCell p u) v l:=by
 obtain ⟨hb,⟨rfl,rfl⟩ | ⟨b,N,f,rfl,hB,hN,hr,hf⟩⟩:=h
 ·
  exact ⟨hb,.inl ⟨rfl,rfl⟩⟩
 ·
  exact ⟨hb,.inr ⟨b,N,f,rfl,hB,hN,hr.setOther (by omega) u,hf⟩⟩
theorem u64_wrap (n:Int):IntKind.u64.wrap n = n % 18446744073709551616:=rfl
theorem getD_set (o:List Nat) (m v j:Nat) (hm:m < o.length):(o.set m v).getD j 0 = if j = m then v else o.getD j 0:=by
 simp only [List.getD_eq_getElem?_getD,List.getElem?_set]
 by_cases h:m = j
 ·
  subst h; simp [hm]
 ·
  rw [if_neg h,if_neg (fun e => h e.symm)]
theorem val_set (o:List Nat):∀ (m v:Nat),m < o.length→M.val (o.set m v) + 4294967296 ^ m * o.getD m 0 = M.val o + 4294967296 ^ m * v:=by
 induction o with
 | nil => intro m v h; simp at h
 | cons x o ih =>
  intro m v h
  cases m with
  | zero => simp [M.val]; omega
  | succ m =>
   have:=ih m v (by simpa using h)
   simp only [List.set_cons_succ,M.val,Nat.pow_succ,List.getD_cons_succ]
   have e1:4294967296 ^ m * 4294967296 * o.getD m 0 = 4294967296 * (4294967296 ^ m * o.getD m 0):=by rw [Nat.mul_comm (4294967296 ^ m) 4294967296,Nat.mul_assoc]
   have e2:4294967296 ^ m * 4294967296 * v = 4294967296 * (4294967296 ^ m * v):=by rw [Nat.mul_comm (4294967296 ^ m) 4294967296,Nat.mul_assoc]
   omega
theorem Bd_set {o:List Nat} (h:M.Bd o) (m v:Nat) (hv:v < 4294967296):M.Bd (o.set m v):=by
 intro x hx
 rcases List.mem_or_eq_of_mem_set hx with h1 | h1
 ·
  exact h x h1
 ·
  omega
theorem Bd_replicate (n:Nat):M.Bd (List.replicate n 0):=by
 intro x hx; rw [List.mem_replicate] at hx; omega
theorem val_replicate (n:Nat):M.val (List.replicate n 0) = 0:=by
 induction n with
 | zero => rfl
 | succ n ih => rw [List.replicate_succ,M.val,ih]
theorem row_set {w:World} {b N:Nat} {o:List Nat} (h:w.rowIs b 40 N (fun j => .int .u32 ((o.getD j 0:Nat):Int))) (m:Nat) (hm:m < o.length) (v:Nat) (y:Int) (hy:y = v) :
  (w.setCell ⟨b,m,none⟩ (.int .u32 y)).rowIs b 40 N (fun j => .int .u32 (((o.set m v).getD j 0:Nat):Int)):=by
 subst hy
 refine (h.set m (.int .u32 v)).congr (fun j _ => ?_)
 rw [getD_set _ _ _ _ hm]
 split <;> rfl
theorem ret_i64 {a b:Int} (h:a = b):Ending.returned (.int .i64 a) = .returned (.int .i64 b):=by rw [h]
theorem ret_bool {a b:Bool} (h:a = b):Ending.returned (.bool a) = .returned (.bool b):=by rw [h]
set_option maxHeartbeats 400000 in
theorem limbAt_any {v:Value} {l:List Nat} (w:World) (h:Sl w v l) (i:Int) (h0:0≤i) (hl:l.length≤1000000) :
  Calls Tryz.prog 135 #[v,.int .i64 i] w fun e w' => e = .returned (.int .u64 ((l.getD i.toNat 0:Nat):Int))∧w' = w:=by
 obtain ⟨hb,ao,cap,rfl,hx⟩:=h
 obtain ⟨k,rfl⟩:=Int.eq_ofNat_of_zero_le h0
 simp only [Int.toNat_natCast]
 have hlt':=hb.getD k
 generalize hz:l.getD k 0 = z at *
 by_cases hk:k < l.length
 ·
  obtain ⟨_,b,off,rfl,_,hc⟩:=hx (by omega)
  have hck:=hc k hk
  rw [hz] at hck
  have HZ:Hid (l.getD k 0 = z):=hz
  clear hc hx hz
  go_enter Tryz.func135,Tryz.ntmps135
  go_wp2
  go_ret
  exact ⟨rfl,rfl⟩
 ·
  have hz0:z = 0:=by rw [← hz,List.getD_eq_getElem?_getD,List.getElem?_eq_none (by omega)]; rfl
  clear hz hx
  subst hz0
  go_enter Tryz.func135,Tryz.ntmps135
  go_wp2
  go_ret
  exact ⟨rfl,rfl⟩
end Go.Proofs.YtdcgdpbgnijnpaaGreat

namespace Go.Proofs.YtdcgdpbgnijnpaaGreat
open Go.RowKit
def R (neg:Bool) (l:List Nat):Prop:=l.length≤72∧(l.length = 0→neg = false)∧(0 < l.length→l.getD (l.length - 1) 0 ≠ 0)
theorem R.right {neg:Bool} {l:List Nat} (h:R neg l) (hb:M.Bd l):M.Right neg l :=
 ⟨hb,by by_cases h0:l.length = 0; exact .inl h0; exact .inr (h.2.2 (by omega)),h.1,fun e => h.2.1 (by simp [e])⟩
theorem R.of_right {neg:Bool} {l:List Nat} (h:M.Right neg l):R neg l :=
 ⟨h.len,fun e => h.zero (List.length_eq_zero_iff.1 e),fun h0 => by rcases h.tr with h1 | h1; omega; exact h1⟩
theorem R.tr {neg:Bool} {l:List Nat} (h:R neg l):M.Tr l:=by
 by_cases h0:l.length = 0
 ·
  exact .inl h0
 ·
  exact .inr (h.2.2 (by omega))
theorem cell_alloc_old {w:World} {b o:Nat} {v:Value} (hb:b < w.heap.size) (h:w.cell? ⟨b,o,none⟩ = some v) (x:Obj):(w.alloc x).cell? ⟨b,o,none⟩ = some v :=
 (((Below.refl _ w).alloc (Nat.le_refl _) x).cell (p:=⟨b,o,none⟩) hb).trans h
set_option maxHeartbeats 1000000 in
theorem check_yes (neg:Bool) (v:Value) (l:List Nat) (w:World) (h:Sl w v l) (hr:R neg l) :
  Calls Tryz.prog 62 #[.agg #[.bool neg,v]] w fun e w' => e = .returned (.int .i64 0)∧Kept w w':=by
 obtain ⟨hb,ao,cap,rfl,hx⟩:=h
 obtain ⟨h1,h2,h3⟩:=hr
 by_cases h0:l.length = 0
 ·
  have h2:=h2 h0
  subst h2
  clear hx h3
  obtain ⟨n,hn⟩:∃ n,n = l.length:=⟨_,rfl⟩
  rw [← hn] at h0 h1 ⊢
  subst h0
  clear hn h1
  go_enter Tryz.func62,Tryz.ntmps62
  go_wp2
  go_ret
  exact ⟨rfl,(Kept.refl w).alloc _⟩
 ·
  obtain ⟨_,b,off,rfl,hlt,hc⟩:=hx (by omega)
  have hc:=hc (l.length - 1) (by omega)
  have h3:=h3 (by omega)
  have hbd:=hb.getD (l.length - 1)
  obtain ⟨x,hxe⟩:∃ x,x = l.getD (l.length - 1) 0:=⟨_,rfl⟩
  rw [← hxe] at hc h3 hbd
  clear hxe hx h2
  obtain ⟨n,hn⟩:∃ n,n = l.length:=⟨_,rfl⟩
  rw [← hn] at h0 h1 hc ⊢
  have hca:=cell_alloc_old hlt hc
  have h4:1≤n:=by omega
  have hx0:((x:Int) == 0) = false:=by simp; omega
  clear hn hc
  go_enter Tryz.func62,Tryz.ntmps62
  go_wp2
  go_ret
  refine ⟨?_,(Kept.refl w).alloc _⟩
  first | rfl | exact ret_bool (by rw [bne,hx0]; rfl)
set_option maxHeartbeats 1000000 in
theorem check_no (neg:Bool) (v:Value) (l:List Nat) (w:World) (h:Sl w v l) (hl:l.length≤9223372036854775807) (hr:¬ R neg l) :
  Calls Tryz.prog 62 #[.agg #[.bool neg,v]] w fun e w' => e = .returned (.int .i64 10)∧Kept w w':=by
 obtain ⟨hb,ao,cap,rfl,hx⟩:=h
 by_cases h1:72 < l.length
 ·
  clear hx hr
  obtain ⟨n,hn⟩:∃ n,n = l.length:=⟨_,rfl⟩
  rw [← hn] at h1 hl ⊢
  clear hn
  go_enter Tryz.func62,Tryz.ntmps62
  go_wp2
  go_ret
  exact ⟨rfl,(Kept.refl w).alloc _⟩
 by_cases h0:l.length = 0
 ·
  have h2:neg = true:=by
   cases neg
   ·
    exact absurd ⟨by omega,fun _ => rfl,fun h => by omega⟩ hr
   ·
    rfl
  subst h2
  clear hx hr h1 hl
  obtain ⟨n,hn⟩:∃ n,n = l.length:=⟨_,rfl⟩
  rw [← hn] at h0 ⊢
  subst h0
  clear hn
  go_enter Tryz.func62,Tryz.ntmps62
  go_wp2
  go_ret
  exact ⟨rfl,(Kept.refl w).alloc _⟩
 ·
  obtain ⟨_,b,off,rfl,hlt,hc⟩:=hx (by omega)
  have hc:=hc (l.length - 1) (by omega)
  have h3:l.getD (l.length - 1) 0 = 0:=by
   rcases Nat.eq_zero_or_pos (l.getD (l.length - 1) 0) with h | h
   ·
    exact h
   ·
    exact absurd ⟨by omega,fun h => by omega,fun _ => by omega⟩ hr
  rw [h3] at hc
  clear hx hr h3
  obtain ⟨n,hn⟩:∃ n,n = l.length:=⟨_,rfl⟩
  rw [← hn] at h0 h1 hc hl ⊢
  have hca:=cell_alloc_old hlt hc
  have h4:1≤n:=by omega
  have h5:n≤72:=by omega
  clear hn hc h1
  go_enter Tryz.func62,Tryz.ntmps62
  go_wp2
  go_ret
  exact ⟨rfl,(Kept.refl w).alloc _⟩
set_option maxHeartbeats 1000000 in
theorem right_yes (neg:Bool) (v:Value) (l:List Nat) (w:World) (h:Sl w v l) (hr:R neg l) :
  Calls Tryz.prog 38 #[.agg #[.bool neg,v]] w fun e w' => e = .returned (.bool true)∧Kept w w':=by
 obtain ⟨hb,ao,cap,rfl,hx⟩:=h
 obtain ⟨h1,h2,h3⟩:=hr
 by_cases h0:l.length = 0
 ·
  have h2:=h2 h0
  subst h2
  clear hx h3
  obtain ⟨n,hn⟩:∃ n,n = l.length:=⟨_,rfl⟩
  rw [← hn] at h0 h1 ⊢
  subst h0
  clear hn h1
  go_enter Tryz.func38,Tryz.ntmps38
  go_wp2
  go_ret
  exact ⟨rfl,(Kept.refl w).alloc _⟩
 ·
  obtain ⟨_,b,off,rfl,hlt,hc⟩:=hx (by omega)
  have hc:=hc (l.length - 1) (by omega)
  have h3:=h3 (by omega)
  have hbd:=hb.getD (l.length - 1)
  obtain ⟨x,hxe⟩:∃ x,x = l.getD (l.length - 1) 0:=⟨_,rfl⟩
  rw [← hxe] at hc h3 hbd
  clear hxe hx h2
  obtain ⟨n,hn⟩:∃ n,n = l.length:=⟨_,rfl⟩
  rw [← hn] at h0 h1 hc ⊢
  have hca:=cell_alloc_old hlt hc
  have h4:1≤n:=by omega
  have hx0:((x:Int) == 0) = false:=by simp; omega
  clear hn hc
  go_enter Tryz.func38,Tryz.ntmps38
  go_wp2
  go_ret
  refine ⟨?_,(Kept.refl w).alloc _⟩
  first | rfl | exact ret_bool (by rw [bne,hx0]; rfl)
set_option maxHeartbeats 1000000 in
theorem right_no (neg:Bool) (v:Value) (l:List Nat) (w:World) (h:Sl w v l) (hl:l.length≤9223372036854775807) (hr:¬ R neg l) :
  Calls Tryz.prog 38 #[.agg #[.bool neg,v]] w fun e w' => e = .returned (.bool false)∧Kept w w':=by
 obtain ⟨hb,ao,cap,rfl,hx⟩:=h
 by_cases h1:72 < l.length
 ·
  clear hx hr
  obtain ⟨n,hn⟩:∃ n,n = l.length:=⟨_,rfl⟩
  rw [← hn] at h1 hl ⊢
  clear hn
  go_enter Tryz.func38,Tryz.ntmps38
  go_wp2
  go_ret
  exact ⟨rfl,(Kept.refl w).alloc _⟩
 by_cases h0:l.length = 0
 ·
  have h2:neg = true:=by
   cases neg
   ·
    exact absurd ⟨by omega,fun _ => rfl,fun h => by omega⟩ hr
   ·
    rfl
  subst h2
  clear hx hr h1 hl
  obtain ⟨n,hn⟩:∃ n,n = l.length:=⟨_,rfl⟩
  rw [← hn] at h0 ⊢
  subst h0
  clear hn
  go_enter Tryz.func38,Tryz.ntmps38
  go_wp2
  go_ret
  exact ⟨rfl,(Kept.refl w).alloc _⟩
 ·
  obtain ⟨_,b,off,rfl,hlt,hc⟩:=hx (by omega)
  have hc:=hc (l.length - 1) (by omega)
  have h3:l.getD (l.length - 1) 0 = 0:=by
   rcases Nat.eq_zero_or_pos (l.getD (l.length - 1) 0) with h | h
   ·
    exact h
   ·
    exact absurd ⟨by omega,fun h => by omega,fun _ => by omega⟩ hr
  rw [h3] at hc
  clear hx hr h3
  obtain ⟨n,hn⟩:∃ n,n = l.length:=⟨_,rfl⟩
  rw [← hn] at h0 h1 hc hl ⊢
  have hca:=cell_alloc_old hlt hc
  have h4:1≤n:=by omega
  have h5:n≤72:=by omega
  clear hn hc h1
  go_enter Tryz.func38,Tryz.ntmps38
  go_wp2
  go_ret
  exact ⟨rfl,(Kept.refl w).alloc _⟩
theorem Kept.cells {W w1:World} (h:Kept W w1):∀ b o,b < W.heap.size→w1.cell? ⟨b,o,none⟩ = W.cell? ⟨b,o,none⟩:=fun b o hb => Below.cell h (p:=⟨b,o,none⟩) hb
theorem Kept.frozens {W w1:World} (h:Kept W w1):∀ b o,b < W.heap.size→w1.frozen? ⟨b,o,none⟩ = W.frozen? ⟨b,o,none⟩:=fun b o hb => Below.frozen h (p:=⟨b,o,none⟩) hb
theorem cell_kept {W W':World} (h:Kept W W') {b o:Nat} {v:Value} (hc:W.cell? ⟨b,o,none⟩ = some v):W'.cell? ⟨b,o,none⟩ = some v :=
 (h.cell (p:=⟨b,o,none⟩) (World.block_lt_of_cell? W _ hc)).trans hc
set_option maxHeartbeats 1000000 in
theorem wrong_no (m n:Bool) (va vb:Value) (a b:List Nat) (w:World) (ha:Sl w va a) (hb:Sl w vb b) (hra:R m a) (hrb:R n b) :
  Calls Tryz.prog 109 #[.agg #[.bool m,va],.agg #[.bool n,vb]] w fun e w' => e = .returned (.bool false)∧Kept w w':=by
 go_enter Tryz.func109,Tryz.ntmps109
 go_wp2_with fail
 refine (check_yes m va a _ (ha.kept (((Kept.refl w).alloc _).alloc _)) hra).mono ?_
 rintro e w1 ⟨rfl,hk⟩
 have hc:=hk.cells
 have HK:Hid (Kept w w1):=(((Kept.refl w).alloc _).alloc _).trans hk
 clear hk
 go_wp2_with fail
 refine (check_yes n vb b _ (hb.kept HK.out) hrb).mono ?_
 rintro e w2 ⟨rfl,hk2⟩
 have HK2:Hid (Kept w w2):=HK.out.trans hk2
 clear hk2 hc
 go_wp2
 go_ret
 exact ⟨rfl,HK2.out⟩
end Go.Proofs.YtdcgdpbgnijnpaaGreat

namespace Go.Proofs.YtdcgdpbgnijnpaaGreat
open Go.RowKit
set_option maxHeartbeats 400000 in
theorem trim_raw (ao:Option Addr) (cap:Nat) (l:List Nat) (w:World) (h:Sl w (.slice ao l.length cap) l) (hl:l.length≤1000000) :
  Calls Tryz.prog 73 #[.slice ao l.length cap] w fun e w' => w' = w∧∃ n,n≤l.length∧M.Tr (l.take n)∧M.val (l.take n) = M.val l ∧
   e = .returned (if n = 0 then .slice none 0 0 else .slice ao n cap):=by
 obtain ⟨hb,ao',cap',hv,hx⟩:=h
 simp only [Value.slice.injEq,true_and] at hv
 obtain ⟨rfl,rfl⟩:=hv
 obtain ⟨len,hlen⟩:∃ len,len = l.length:=⟨_,rfl⟩
 rw [← hlen] at hx hl ⊢
 have HL:Hid (len = l.length):=hlen
 have HX:Hid (0 < len→len≤cap∧∃ b off:Nat,ao = some ⟨b,off,none⟩∧b < w.heap.size∧∀ j,j < len→w.cell? ⟨b,off + j,none⟩ = some (.int .u32 ((l.getD j 0:Nat):Int))):=hx
 clear hx hlen
 go_enter Tryz.func73,Tryz.ntmps73
 go_wp2
 go_loop [3] (fun n => ∃ k:Nat,k≤len∧n = .int .i64 k∧Hid (∀ j,k≤j→l.getD j 0 = 0)) (fun n => (intOf n).toNat)
 case atStart => exact ⟨len,Nat.le_refl _,rfl,fun j hj => by rw [HL.out] at hj; rw [List.getD_eq_getElem?_getD,List.getElem?_eq_none hj]; rfl⟩
 case round =>
  obtain ⟨k,hk,rfl,hz⟩:=hrel
  by_cases h0:k = 0
  ·
   subst h0
   go_wp2
   go_ret
   exact ⟨rfl,0,Nat.zero_le _,Or.inl (by simp),M.val_drop_zero hz.out,by simp⟩
  ·
   obtain ⟨hcap,b,off,rfl,hlt,hc⟩:=HX.out (by omega)
   have hck:=hc (k - 1) (by omega)
   clear HX hc
   have hbd:=hb.getD (k - 1)
   obtain ⟨x,hxe⟩:∃ x,x = l.getD (k - 1) 0:=⟨_,rfl⟩
   rw [← hxe] at hck hbd
   have HXE:Hid (x = l.getD (k - 1) 0):=hxe
   clear hxe
   have h1:1≤k:=by omega
   by_cases hx0:x = 0
   ·
    subst hx0
    go_wp2
    go_round
    case rel => exact ⟨k - 1,by omega,by go_num,fun j hj => by
     by_cases e:j = k - 1
     ·
      rw [e]; exact HXE.out.symm
     ·
      exact hz.out j (by omega)⟩
    case measure => simp [intOf]; omega
   ·
    have hx1:((x:Int) == 0) = false:=by simp; omega
    go_wp2
    go_ret
    refine ⟨rfl,k,hk,Or.inr ?_,M.val_drop_zero hz.out,by rw [if_neg h0]; rfl⟩
    have e1:(l.take k).length = k:=by rw [List.length_take]; have:=HL.out; omega
    rw [e1,List.getD_eq_getElem?_getD,List.getElem?_take_of_lt (by omega),← List.getD_eq_getElem?_getD,← HXE.out]
    exact hx0
theorem Sl.take {w:World} {ao:Option Addr} {cap:Nat} {l:List Nat} (h:Sl w (.slice ao l.length cap) l) (n:Nat) (hn:n≤l.length) :
  Sl w (if n = 0 then .slice none 0 0 else .slice ao n cap) (l.take n):=by
 by_cases h0:n = 0
 ·
  subst h0; rw [if_pos rfl]; exact Sl.nil _ _ _
 ·
  rw [if_neg h0]
  obtain ⟨hb,ao',cap',hv,hx⟩:=h
  simp only [Value.slice.injEq,true_and] at hv
  obtain ⟨rfl,rfl⟩:=hv
  have e1:(l.take n).length = n:=by rw [List.length_take]; omega
  refine ⟨hb.take n,ao,cap,by rw [e1],fun _ => ?_⟩
  obtain ⟨hc,b,off,e,hlt,hcell⟩:=hx (by omega)
  refine ⟨by omega,b,off,e,hlt,fun j hj => ?_⟩
  rw [e1] at hj
  rw [hcell j (by omega),List.getD_eq_getElem?_getD,List.getD_eq_getElem?_getD,List.getElem?_take_of_lt hj]
theorem trim_new {B b N len:Nat} {l:List Nat} (w:World) (h:New B w (.slice (some ⟨b,0,none⟩) len N) l) (hl:l.length≤1000000) :
  Calls Tryz.prog 73 #[.slice (some ⟨b,0,none⟩) len N] w fun e w' => w' = w∧∃ v' l',e = .returned v'∧New B w v' l'∧M.Tr l'∧M.val l' = M.val l∧l'.length≤l.length:=by
 have e:=h.len
 subst e
 refine (trim_raw _ _ l w h.sl hl).mono ?_
 rintro e w' ⟨rfl,n,hn,ht,hval,rfl⟩
 exact ⟨rfl,_,_,rfl,h.take n hn,ht,hval,by rw [List.length_take]; omega⟩
theorem trim_any {v:Value} {l:List Nat} (w:World) (h:Sl w v l) (hl:l.length≤1000000) :
  Calls Tryz.prog 73 #[v] w fun e w' => w' = w∧∃ v' l',e = .returned v'∧Sl w v' l'∧M.Tr l'∧M.val l' = M.val l∧l'.length≤l.length:=by
 have h':=h
 obtain ⟨hb,ao,cap,rfl,hx⟩:=h
 refine (trim_raw ao cap l w h' hl).mono ?_
 rintro e w' ⟨rfl,n,hn,ht,hval,rfl⟩
 exact ⟨rfl,_,_,rfl,h'.take n hn,ht,hval,by rw [List.length_take]; omega⟩
end Go.Proofs.YtdcgdpbgnijnpaaGreat

namespace Go.Proofs.YtdcgdpbgnijnpaaGreat
open Go.RowKit
theorem row_two (w:World) (x y:Nat):(w.alloc (.cells #[.int .u32 (x:Int),.int .u32 (y:Int)] 40)).rowIs w.heap.size 40 2 (fun j => .int .u32 ((([x,y]:List Nat).getD j 0:Nat):Int)):=by
 refine World.rowIs_alloc w _ 40 _ (fun i hi => ?_)
 simp at hi
 match i,hi with
 | 0,_ => rfl
 | 1,_ => rfl
set_option maxHeartbeats 1000000 in
theorem fromWord_any (x:Nat) (w:World) (hx:x < 18446744073709551616) :
  Calls Tryz.prog 42 #[.int .u64 (x:Int)] w fun e w' => Kept w w'∧∃ v' l',e = .returned v'∧New w.heap.size w' v' l'∧M.Tr l'∧M.val l' = x∧l'.length≤2:=by
 have hnew:New w.heap.size (w.alloc (.cells #[.int .u32 ((x:Int) % 4294967296),.int .u32 ((x:Int) / 4294967296)] 40)) (.slice (some ⟨w.heap.size,0,none⟩) 2 2) [x % 4294967296,x / 4294967296]:=by
  have e1:(x:Int) % 4294967296 = ((x % 4294967296:Nat):Int):=by omega
  have e2:(x:Int) / 4294967296 = ((x / 4294967296:Nat):Int):=by omega
  rw [e1,e2]
  refine New.of_row (row_two w _ _) (fun y hy => ?_) rfl (by omega) (Nat.le_refl _)
  simp at hy; omega
 have HN:Hid (New w.heap.size (w.alloc (.cells #[.int .u32 ((x:Int) % 4294967296),.int .u32 ((x:Int) / 4294967296)] 40)) (.slice (some ⟨w.heap.size,0,none⟩) 2 2) [x % 4294967296,x / 4294967296]):=hnew
 clear hnew
 go_enter Tryz.func42,Tryz.ntmps42
 go_wp2_with fail
 refine (trim_new _ HN.out (by simp)).mono ?_
 rintro e w1 ⟨rfl,v',l',rfl,hn',ht',hv',hl'⟩
 have HR:Hid (New w.heap.size (w.alloc (.cells #[.int .u32 ((x:Int) % 4294967296),.int .u32 ((x:Int) / 4294967296)] 40)) v' l'∧M.Tr l'∧M.val l' = x∧l'.length≤2):=⟨hn',ht',by rw [hv']; simp [M.val]; omega,hl'⟩
 clear hn' ht' hv' hl' HN
 go_wp2
 go_ret
 exact ⟨(Kept.refl w).alloc _,v',l',rfl,HR.out⟩
set_option maxHeartbeats 1000000 in
theorem of_any (x:Int) (w:World) (h1:-9223372036854775808≤x) (h2:x≤9223372036854775807) :
  Calls Tryz.prog 17 #[.int .i64 x] w fun e w' => Kept w w'∧∃ s ao n cap l,e = .returned (.agg #[.bool s,.slice ao n cap])∧New w.heap.size w' (.slice ao n cap) l∧M.Right s l∧M.int s l = x:=by
 have hn:∀ (W:World) (u:Nat) (x:Int),u < 18446744073709551616→x = u→Calls Tryz.prog 42 #[.int .u64 x] W fun e w' => Kept W w'∧∃ v' l',e = .returned v'∧New W.heap.size w' v' l'∧M.Tr l'∧M.val l' = u∧l'.length≤2:=fun W u x hu e => by rw [e]; exact fromWord_any u W hu
 have HN:Hid (_):=hn
 clear hn
 by_cases h:x < 0
 ·
  go_enter Tryz.func17,Tryz.ntmps17
  go_wp2_with fail
  refine (HN.out _ (-x).toNat _ (by omega) (by rw [u64_wrap,u64_wrap]; omega)).mono ?_
  rintro e w1 ⟨hk,v',l',rfl,hn,ht,hv,hl⟩
  obtain ⟨ao,cap,rfl⟩:=hn.shape
  have hc:=hk.cells
  have hf:=hk.frozens
  have HK:Hid (Kept w w1):=((Kept.refl w).alloc _).trans hk
  have HR:Hid (New (w.heap.size + 1) w1 (.slice ao l'.length cap) l'∧M.Right true l'∧M.int true l' = x) :=
   ⟨by simpa using hn,⟨hn.1,ht,by omega,fun e => by rw [e] at hv; simp [M.val] at hv; omega⟩,by simp [M.int,hv]; omega⟩
  clear hk hn ht hv hl HN
  go_wp2
  exact bodyPost_ret (v:=.agg #[.bool true,.slice ao l'.length cap]) (by simp [results,Tryz.results17,go_sem,hc]) rfl ⟨(HK.out.setCell (by simp) _).setCell (by simp) _,_,_,_,_,l',rfl,((HR.out.1.other (by simp) _).other (by simp) _).mono (by omega),HR.out.2⟩
 ·
  go_enter Tryz.func17,Tryz.ntmps17
  go_wp2_with fail
  refine (HN.out _ x.toNat _ (by omega) (by omega)).mono ?_
  rintro e w1 ⟨hk,v',l',rfl,hn,ht,hv,hl⟩
  obtain ⟨ao,cap,rfl⟩:=hn.shape
  have hc:=hk.cells
  have hf:=hk.frozens
  have HK:Hid (Kept w w1):=((Kept.refl w).alloc _).trans hk
  have HR:Hid (New (w.heap.size + 1) w1 (.slice ao l'.length cap) l'∧M.Right false l'∧M.int false l' = x) :=
   ⟨by simpa using hn,⟨hn.1,ht,by omega,fun _ => rfl⟩,by simp [M.int,hv]; omega⟩
  clear hk hn ht hv hl HN
  go_wp2
  exact bodyPost_ret (v:=.agg #[.bool false,.slice ao l'.length cap]) (by simp [results,Tryz.results17,go_sem,hc]) rfl ⟨(HK.out.setCell (by simp) _).setCell (by simp) _,_,_,_,_,l',rfl,((HR.out.1.other (by simp) _).other (by simp) _).mono (by omega),HR.out.2⟩
set_option maxHeartbeats 1000000 in
theorem same_yes (m n:Bool) (va vb:Value) (a b:List Nat) (w:World) (ha:Sl w va a) (hb:Sl w vb b) (hl:a.length≤9223372036854775807) (hmn:m = n) (hab:a = b) :
  Calls Tryz.prog 32 #[.agg #[.bool m,va],.agg #[.bool n,vb]] w fun e w' => e = .returned (.bool true)∧Kept w w':=by
 subst hmn hab
 obtain ⟨bda,aoa,capa,rfl,hxa⟩:=ha
 obtain ⟨_,aob,capb,rfl,hxb⟩:=hb
 obtain ⟨N,hN⟩:∃ N,N = a.length:=⟨_,rfl⟩
 rw [← hN] at hxa hxb hl ⊢
 have HA:Hid (_):=hxa
 have HB:Hid (_):=hxb
 clear hxa hxb hN
 have hmm:(m != m) = false:=by simp
 go_enter Tryz.func32,Tryz.ntmps32
 go_wp2
 go_loopw [5] (fun vi wr => ∃ k q:Nat,k≤N∧vi = .int .i64 k∧wr = ((w.alloc (.cells #[.bool m,.slice aoa N capa] 37)).alloc (.cells #[.bool m,.slice aob N capb] 37)).drewN q) (fun vi _ => N - (intOf vi).toNat)
 case atStart => exact ⟨0,0,Nat.zero_le _,rfl,rfl⟩
 case round =>
  obtain ⟨k,q,hk,rfl,rfl⟩:=hrel
  by_cases hlt:k < N
  ·
   obtain ⟨_,ba,oa,rfl,hba,hca⟩:=HA.out (by omega)
   obtain ⟨_,bb,ob,rfl,hbb,hcb⟩:=HB.out (by omega)
   have hca:=fun x y => cell_alloc_old (w:=w.alloc x) (by simp; omega) (cell_alloc_old hba (hca k hlt) x) y
   have hcb:=fun x y => cell_alloc_old (w:=w.alloc x) (by simp; omega) (cell_alloc_old hbb (hcb k hlt) x) y
   have hbd:=bda.getD k
   generalize a.getD k 0 = x at *
   clear HA HB
   go_wp2
   go_quiet (fail)
   go_wp2
   go_roundw
   case rel => exact ⟨k + 1,_,by omega,by go_num,rfl⟩
   case measure => simp [intOf]; omega
  ·
   go_wp2
   go_ret
   exact ⟨rfl,(((Kept.refl w).alloc _).alloc _).drewN q⟩
theorem eq_of_getD {a b:List Nat} (hl:a.length = b.length) (h:∀ j,j < a.length→a.getD j 0 = b.getD j 0):a = b:=by
 apply List.ext_getElem?
 intro j
 by_cases hj:j < a.length
 ·
  have:=h j hj
  rw [List.getD_eq_getElem?_getD,List.getD_eq_getElem?_getD,List.getElem?_eq_getElem hj,List.getElem?_eq_getElem (by omega)] at this
  rw [List.getElem?_eq_getElem hj,List.getElem?_eq_getElem (by omega)]
  simpa using this
 ·
  rw [List.getElem?_eq_none (by omega),List.getElem?_eq_none (by omega)]
set_option maxHeartbeats 1000000 in
theorem same_no (m n:Bool) (va vb:Value) (a b:List Nat) (w:World) (ha:Sl w va a) (hb:Sl w vb b) (_hl:a.length≤9223372036854775807) (hl2:b.length≤9223372036854775807) (h:¬ (m = n∧a = b)) :
  Calls Tryz.prog 32 #[.agg #[.bool m,va],.agg #[.bool n,vb]] w fun e w' => e = .returned (.bool false)∧Kept w w':=by
 obtain ⟨bda,aoa,capa,rfl,hxa⟩:=ha
 obtain ⟨bdb,aob,capb,rfl,hxb⟩:=hb
 by_cases hmn:m = n
 ·
  subst hmn
  have hab:¬ a = b:=fun e => h ⟨rfl,e⟩
  clear h
  have hmm:(m != m) = false:=by simp
  by_cases hlen:a.length = b.length
  ·
   have HAB:Hid (∀ j,j = a.length→¬ ∀ i,i < j→a.getD i 0 = b.getD i 0):=fun j hj hi => hab (eq_of_getD hlen (by rw [← hj]; exact hi))
   obtain ⟨N,hN⟩:∃ N,N = a.length:=⟨_,rfl⟩
   rw [← hlen] at hxb hl2 ⊢
   rw [← hN] at hxa hxb _hl hl2 HAB ⊢
   have HA:Hid (_):=hxa
   have HB:Hid (_):=hxb
   clear hxa hxb hN hab hlen
   go_enter Tryz.func32,Tryz.ntmps32
   go_wp2
   go_loopw [5] (fun vi wr => ∃ k q:Nat,k≤N∧vi = .int .i64 k∧Hid (∀ i,i < k→a.getD i 0 = b.getD i 0)∧wr = ((w.alloc (.cells #[.bool m,.slice aoa N capa] 37)).alloc (.cells #[.bool m,.slice aob N capb] 37)).drewN q) (fun vi _ => N - (intOf vi).toNat)
   case atStart => exact ⟨0,0,Nat.zero_le _,rfl,fun _ h => by omega,rfl⟩
   case round =>
    obtain ⟨k,q,hk,rfl,hpre,rfl⟩:=hrel
    by_cases hlt:k < N
    ·
     obtain ⟨_,ba,oa,rfl,hba,hca⟩:=HA.out (by omega)
     obtain ⟨_,bb,ob,rfl,hbb,hcb⟩:=HB.out (by omega)
     have hca:=fun x y => cell_alloc_old (w:=w.alloc x) (by simp; omega) (cell_alloc_old hba (hca k hlt) x) y
     have hcb:=fun x y => cell_alloc_old (w:=w.alloc x) (by simp; omega) (cell_alloc_old hbb (hcb k hlt) x) y
     have hbd:=bda.getD k
     have hbd2:=bdb.getD k
     obtain ⟨x,hx⟩:∃ x,x = a.getD k 0:=⟨_,rfl⟩
     obtain ⟨y,hy⟩:∃ y,y = b.getD k 0:=⟨_,rfl⟩
     rw [← hx] at hca hbd
     rw [← hy] at hcb hbd2
     have HX:Hid (x = a.getD k 0∧y = b.getD k 0):=⟨hx,hy⟩
     clear HA HB hx hy
     by_cases hxy:x = y
     ·
      subst hxy
      go_wp2
      go_quiet (fail)
      go_wp2
      go_roundw
      case rel => exact ⟨k + 1,_,by omega,by go_num,fun i hi => by
       by_cases e:i = k
       ·
        rw [e,← HX.out.1,← HX.out.2]
       ·
        exact hpre.out i (by omega),rfl⟩
      case measure => simp [intOf]; omega
     ·
      have hne:((x:Int) != (y:Int)) = true:=by rw [bne_iff_ne]; omega
      go_wp2
      go_quiet (fail)
      go_wp2
      go_ret
      exact ⟨rfl,((((Kept.refl w).alloc _).alloc _).drewN q).drewN nq⟩
    ·
     exact absurd hpre.out (HAB.out k (by omega))
  ·
   have hne:((a.length:Int) != (b.length:Int)) = true:=by rw [bne_iff_ne]; omega
   clear hxa hxb hab
   go_enter Tryz.func32,Tryz.ntmps32
   go_wp2
   go_ret
   exact ⟨rfl,((Kept.refl w).alloc _).alloc _⟩
 ·
  have hne:(m != n) = true:=by simpa using hmn
  clear hxa hxb
  go_enter Tryz.func32,Tryz.ntmps32
  go_wp2
  go_ret
  exact ⟨rfl,((Kept.refl w).alloc _).alloc _⟩
end Go.Proofs.YtdcgdpbgnijnpaaGreat

namespace Go.Proofs.YtdcgdpbgnijnpaaGreat
open Go.RowKit
def sgn (m n:Nat):Int:=if m < n then -1 else if m = n then 0 else 1
theorem val_lt_of_top {a b:List Nat} {k:Nat} (ha:M.Bd a) (hk:0 < k) (hka:k≤a.length) (hl:a.length = b.length) (hd:a.drop k = b.drop k) (h:a.getD (k - 1) 0 < b.getD (k - 1) 0):M.val a < M.val b:=by
 rw [M.take_drop_val a (k - 1) (by omega),M.take_drop_val b (k - 1) (by omega),M.drop_getD a (k - 1) (by omega),M.drop_getD b (k - 1) (by omega)]
 rw [show k - 1 + 1 = k by omega,hd]
 have h1:=M.val_lt (ha.take (k - 1))
 rw [List.length_take,Nat.min_eq_left (by omega)] at h1
 have h2:4294967296 ^ (k - 1) * (a.getD (k - 1) 0 + 1 + 4294967296 * M.val (b.drop k))≤4294967296 ^ (k - 1) * (b.getD (k - 1) 0 + 4294967296 * M.val (b.drop k)):=Nat.mul_le_mul_left _ (by omega)
 have h3:4294967296 ^ (k - 1) * (a.getD (k - 1) 0 + 1 + 4294967296 * M.val (b.drop k)) = 4294967296 ^ (k - 1) * (a.getD (k - 1) 0 + 4294967296 * M.val (b.drop k)) + 4294967296 ^ (k - 1):=by
  rw [Nat.mul_add,Nat.mul_add,Nat.mul_add]; omega
 omega
theorem val_lt_of_len {a b:List Nat} (ha:M.Bd a) (hb:M.Tr b) (h:a.length < b.length):M.val a < M.val b:=by
 rcases Nat.lt_or_ge (M.val a) (M.val b) with h1 | h1
 ·
  exact h1
 ·
  have:=M.len_le_of_val_le hb ha h1; omega
theorem drop_pred {a b:List Nat} {k:Nat} (hk:0 < k) (hka:k≤a.length) (hl:a.length = b.length) (hd:a.drop k = b.drop k) (h:a.getD (k - 1) 0 = b.getD (k - 1) 0):a.drop (k - 1) = b.drop (k - 1):=by
 rw [List.drop_eq_getElem_cons (l:=a) (i:=k - 1) (by omega),List.drop_eq_getElem_cons (l:=b) (i:=k - 1) (by omega),show k - 1 + 1 = k by omega,hd]
 rw [List.getD_eq_getElem?_getD,List.getD_eq_getElem?_getD,List.getElem?_eq_getElem (by omega),List.getElem?_eq_getElem (by omega)] at h
 simp at h
 rw [h]
set_option maxHeartbeats 1000000 in
theorem compare_any (va vb:Value) (a b:List Nat) (w:World) (ha:Sl w va a) (hb:Sl w vb b) (_hla:a.length≤1000) (hlb:b.length≤1000) (ta:M.Tr a) (tb:M.Tr b) :
  Calls Tryz.prog 121 #[va,vb] w fun e w' => e = .returned (.int .i64 (sgn (M.val a) (M.val b)))∧∃ n,w' = w.drewN n:=by
 obtain ⟨bda,aoa,capa,rfl,hxa⟩:=ha
 obtain ⟨bdb,aob,capb,rfl,hxb⟩:=hb
 rcases Nat.lt_trichotomy a.length b.length with hl | hl | hl
 ·
  have e:sgn (M.val a) (M.val b) = -1:=by unfold sgn; rw [if_pos (val_lt_of_len bda tb hl)]
  rw [e]
  clear hxa hxb e
  go_enter Tryz.func121,Tryz.ntmps121
  go_wp2
  go_ret
  exact ⟨rfl,0,rfl⟩
 ·
  obtain ⟨n,hn⟩:∃ n,n = a.length:=⟨_,rfl⟩
  have hn2:n = b.length:=by omega
  rw [← hn] at hxa _hla ⊢
  rw [← hn2] at hxb hlb ⊢
  have HA:Hid (_):=hxa
  have HB:Hid (_):=hxb
  have HN:Hid (n = a.length∧n = b.length):=⟨hn,hn2⟩
  obtain ⟨r,hr⟩:∃ r,r = sgn (M.val a) (M.val b):=⟨_,rfl⟩
  rw [← hr]
  have HR:Hid (r = sgn (M.val a) (M.val b)):=hr
  clear hxa hxb hn hn2 hl ta tb hr
  go_enter Tryz.func121,Tryz.ntmps121
  go_wp2
  go_loopw [5] (fun vi wr => ∃ k m:Nat,k≤n∧vi = .int .i64 ((k:Int) - 1)∧Hid (a.drop k = b.drop k)∧wr = w.drewN m) (fun vi _ => (intOf vi + 1).toNat)
  case atStart => exact ⟨n,0,Nat.le_refl _,rfl,by show a.drop n = b.drop n; rw [List.drop_of_length_le (by rw [HN.out.1]; exact Nat.le_refl _),List.drop_of_length_le (by rw [HN.out.2]; exact Nat.le_refl _)],rfl⟩
  case round =>
   obtain ⟨k,m,hk,rfl,hd,rfl⟩:=hrel
   by_cases h0:k = 0
   ·
    subst h0
    go_wp2
    go_ret
    refine ⟨?_,m,rfl⟩
    have e:a = b:=by simpa using hd.out
    rw [HR.out,e]; simp [sgn]
   ·
    obtain ⟨_,ba,oa,rfl,_,hca⟩:=HA.out (by omega)
    obtain ⟨_,bb,ob,rfl,_,hcb⟩:=HB.out (by omega)
    have hca:=hca (k - 1) (by omega)
    have hcb:=hcb (k - 1) (by omega)
    have hba:=bda.getD (k - 1)
    have hbb:=bdb.getD (k - 1)
    obtain ⟨x,hx⟩:∃ x,x = a.getD (k - 1) 0:=⟨_,rfl⟩
    obtain ⟨y,hy⟩:∃ y,y = b.getD (k - 1) 0:=⟨_,rfl⟩
    rw [← hx] at hca hba
    rw [← hy] at hcb hbb
    have HX:Hid (x = a.getD (k - 1) 0):=hx
    have HY:Hid (y = b.getD (k - 1) 0):=hy
    clear hx hy HA HB
    have h1:1≤k:=by omega
    rcases Nat.lt_trichotomy x y with hxy | hxy | hxy
    ·
     go_wp2
     go_quiet (fail)
     go_wp2
     go_ret
     refine ⟨ret_i64 ?_,_,by rw [World.drewN_drewN]⟩
     rw [HR.out,sgn,if_pos (val_lt_of_top bda h1 (by rw [← HN.out.1]; exact hk) (by rw [← HN.out.1,← HN.out.2]) hd.out (by rw [← HX.out,← HY.out]; exact hxy))]
    ·
     subst hxy
     go_wp2
     go_quiet (fail)
     go_wp2
     go_quiet (fail)
     go_wp2
     go_roundw
     case rel => exact ⟨k - 1,_,by omega,by go_num,drop_pred h1 (by rw [← HN.out.1]; exact hk) (by rw [← HN.out.1,← HN.out.2]) hd.out (by rw [← HX.out,← HY.out]),rfl⟩
     case measure => simp [intOf]; omega
    ·
     go_wp2
     go_quiet (fail)
     go_wp2
     go_quiet (fail)
     go_wp2
     go_ret
     refine ⟨ret_i64 ?_,_,by rw [World.drewN_drewN,World.drewN_drewN]⟩
     have h2:=val_lt_of_top bdb h1 (by rw [← HN.out.2]; exact hk) (by rw [← HN.out.1,← HN.out.2]) hd.out.symm (by rw [← HX.out,← HY.out]; exact hxy)
     rw [HR.out,sgn,if_neg (by omega),if_neg (by omega)]
 ·
  have e:sgn (M.val a) (M.val b) = 1:=by have:=val_lt_of_len bdb ta hl; unfold sgn; rw [if_neg (by omega),if_neg (by omega)]
  rw [e]
  clear hxa hxb e
  go_enter Tryz.func121,Tryz.ntmps121
  go_wp2
  go_ret
  exact ⟨rfl,0,rfl⟩
end Go.Proofs.YtdcgdpbgnijnpaaGreat

namespace Go.Proofs.YtdcgdpbgnijnpaaGreat
open Go.RowKit
set_option maxHeartbeats 1000000 in
theorem signed_any (neg:Bool) (ao:Option Addr) (n cap:Nat) (w:World) (hn:n≤1000000) :
  Calls Tryz.prog 119 #[.bool neg,.slice ao n cap] w fun e w' => e = .returned (.agg #[.bool (neg && decide (0 < n)),.slice ao n cap])∧Kept w w':=by
 cases neg with
 | false =>
  go_enter Tryz.func119,Tryz.ntmps119
  go_wp2
  exact bodyPost_ret (v:=.agg #[.bool false,.slice ao n cap]) (by simp [results,Tryz.results119,go_sem]) rfl ⟨by simp,(Kept.refl w).alloc _⟩
 | true =>
  by_cases h0:0 < n
  ·
   go_enter Tryz.func119,Tryz.ntmps119
   go_wp2
   exact bodyPost_ret (v:=.agg #[.bool true,.slice ao n cap]) (by simp [results,Tryz.results119,go_sem]) rfl ⟨by simp [h0],(Kept.refl w).alloc _⟩
  ·
   have e:n = 0:=by omega
   subst e
   go_enter Tryz.func119,Tryz.ntmps119
   go_wp2
   exact bodyPost_ret (v:=.agg #[.bool false,.slice ao 0 cap]) (by simp [results,Tryz.results119,go_sem]) rfl ⟨by simp,(Kept.refl w).alloc _⟩
set_option maxHeartbeats 1000000 in
theorem answer_fits (neg:Bool) (ao:Option Addr) (n cap:Nat) (w:World) (hn:n≤72) :
  Calls Tryz.prog 110 #[.bool neg,.slice ao n cap] w fun e w' => e = .returned (.tuple #[.agg #[.bool (neg && decide (0 < n)),.slice ao n cap],.int .i64 0])∧Kept w w':=by
 obtain ⟨s,hs⟩:∃ s,s = (neg && decide (0 < n)):=⟨_,rfl⟩
 rw [← hs]
 have HS:Hid (s = (neg && decide (0 < n))):=hs
 clear hs
 go_enter Tryz.func110,Tryz.ntmps110
 go_wp2_with fail
 refine (signed_any neg ao n cap _ (by omega)).mono ?_
 rintro e w1 ⟨rfl,hk⟩
 rw [← HS.out]
 have hc:=hk.cells
 have hf:=hk.frozens
 have HK:Hid (Kept w w1):=((Kept.refl w).alloc _).trans hk
 have hz:w.heap.size < w1.heap.size:=by have:=hk.size; simp at this; omega
 clear hk
 go_wp2
 exact bodyPost_ret (v:=.tuple #[.agg #[.bool s,.slice ao n cap],.int .i64 0]) (by simp [results,Tryz.results110,go_sem,hc]) rfl ⟨rfl,by
  have:=HK.out
  exact (this.setCell (Nat.le_refl _) _).setCell (Nat.le_refl _) _⟩
set_option maxHeartbeats 1000000 in
theorem answer_wide (neg:Bool) (ao:Option Addr) (n cap:Nat) (w:World) (hn:72 < n) (hl:n≤1000000) :
  Calls Tryz.prog 110 #[.bool neg,.slice ao n cap] w fun e w' => e = .returned (.tuple #[.agg #[.bool false,.slice none 0 0],.int .i64 13])∧Kept w w':=by
 go_enter Tryz.func110,Tryz.ntmps110
 go_wp2
 exact bodyPost_ret (v:=.tuple #[.agg #[.bool false,.slice none 0 0],.int .i64 13]) (by simp [results,Tryz.results110,go_sem]) rfl ⟨rfl,(Kept.refl w).alloc _⟩
end Go.Proofs.YtdcgdpbgnijnpaaGreat

namespace Go.Proofs.YtdcgdpbgnijnpaaGreat
open Go.RowKit
theorem sum_step {a b p:List Nat} {k c x y s:Nat} (hx:x = a.getD k 0) (hy:y = b.getD k 0) (hs:s = c + (x + y)) (hp:p.length = k)
  (h:M.val p + 4294967296 ^ k * c = M.val (a.take k) + M.val (b.take k)) :
  M.val (p ++ [s % 4294967296]) + 4294967296 ^ (k + 1) * (s / 4294967296) = M.val (a.take (k + 1)) + M.val (b.take (k + 1)):=by
 rw [M.val_snoc,hp,M.take_succ_getD,M.take_succ_getD,← hx,← hy,Nat.pow_succ,Nat.mul_assoc]
 have e:4294967296 ^ k * (s % 4294967296) + 4294967296 ^ k * (4294967296 * (s / 4294967296)) = 4294967296 ^ k * s:=by
  rw [← Nat.mul_add]; congr 1; omega
 have e2:4294967296 ^ k * s = 4294967296 ^ k * c + 4294967296 ^ k * x + 4294967296 ^ k * y:=by rw [hs,Nat.mul_add,Nat.mul_add]; omega
 omega
set_option maxHeartbeats 1000000 in
theorem sum_ge (va vb:Value) (a b:List Nat) (w:World) (ha:Sl w va a) (hb:Sl w vb b) (hla:a.length≤1000) (hlb:b.length≤1000) (hc:b.length≤a.length) :
  Calls Tryz.prog 120 #[va,vb] w fun e w' => Kept w w'∧∃ v' l',e = .returned v'∧New w.heap.size w' v' l'∧M.Tr l'∧M.val l' = M.val a + M.val b∧l'.length≤2000:=by
 have ha':=ha
 have hb':=hb
 obtain ⟨bda,aoa,capa,rfl,hxa⟩:=ha
 obtain ⟨bdb,aob,capb,rfl,hxb⟩:=hb
 have HX:Hid (_):=hxa
 have HY:Hid (Sl w (.slice aob b.length capb) b):=hb'
 clear hxa hxb ha' hb'
 have hmk:∀ w:World,(Instr.makeSlice 35 (.int .i64 ((a.length:Int) + 1)) (.int .i64 ((a.length:Int) + 1))).run Tryz.prog w = .ok (.slice (some ⟨w.heap.size,0,none⟩) (a.length + 1) (a.length + 1)) (w.alloc (.cells (madeCells #[.int .u32 0] (a.length + 1)) 40)):=fun w => by
  have h:=make_limbs (a.length + 1) (by omega) w
  rwa [show ((a.length + 1:Nat):Int) = (a.length:Int) + 1 by omega] at h
 go_enter Tryz.func120,Tryz.ntmps120
 go_wp2
 go_loopw [6,21] (fun vc vi wr => ∃ (k c:Nat) (p:List Nat),k≤a.length∧c≤1∧vi = .int .i64 k∧vc = .int .u64 c∧Hid (p.length = k∧M.Bd p∧M.val p + 4294967296 ^ k * c = M.val (a.take k) + M.val (b.take k)) ∧
   Hid (wr.rowIs w.heap.size 40 (a.length + 1) (fun j => .int .u32 ((p.getD j 0:Nat):Int)))∧Hid (Kept w wr)) (fun _ vi _ => a.length - (intOf vi).toNat)
 case atStart => exact ⟨0,0,[],Nat.zero_le _,by omega,rfl,rfl,⟨rfl,M.Bd_nil,by simp [M.val]⟩,row_made w _,(Kept.refl w).alloc _⟩
 case round =>
  obtain ⟨k,c,p,hk,hc1,rfl,rfl,hp,hrow,hkept⟩:=hrel
  have hf:wr.frozen? ⟨w.heap.size,k,none⟩ = false:=hrow.out.frozen _
  have hco:k≤a.length→wr.cell? ⟨w.heap.size,k,none⟩ = some (.int .u32 ((p.getD k 0:Nat):Int)):=fun h => hrow.out.cell (by omega)
  obtain ⟨z,hz⟩:∃ z:Int,z = ((p.getD k 0:Nat):Int):=⟨_,rfl⟩
  rw [← hz] at hco
  clear hz
  by_cases hlt:k < a.length
  ·
   obtain ⟨hcap,bx,ox,rfl,hbx,hcx⟩:=HX.out (by omega)
   have hck:wr.cell? ⟨bx,ox + k,none⟩ = some (.int .u32 ((a.getD k 0:Nat):Int)):=(hkept.out.cell (p:=⟨bx,ox + k,none⟩) hbx).trans (hcx k hlt)
   clear hcx
   have hxb:=bda.getD k
   have hyb:=bdb.getD k
   have hcall:∀ n,Calls Tryz.prog 135 #[.slice aob b.length capb,.int .i64 k] (wr.drewN n) fun e w' => e = .returned (.int .u64 ((b.getD k 0:Nat):Int))∧w' = wr.drewN n:=fun n => by
    have h:=limbAt_any (wr.drewN n) ((HY.out.kept hkept.out).drewN n) (k:Int) (by omega) (by omega)
    rwa [Int.toNat_natCast] at h
   obtain ⟨x,hx⟩:∃ x,x = a.getD k 0:=⟨_,rfl⟩
   obtain ⟨y,hy⟩:∃ y,y = b.getD k 0:=⟨_,rfl⟩
   rw [← hx] at hck hxb
   rw [← hy] at hyb
   have HC:Hid (∀ n,Calls Tryz.prog 135 #[.slice aob b.length capb,.int .i64 k] (wr.drewN n) fun e w' => e = .returned (.int .u64 (y:Int))∧w' = wr.drewN n):=by rw [hy]; exact hcall
   have HXe:Hid (x = a.getD k 0):=hx
   have HYe:Hid (y = b.getD k 0):=hy
   clear hx hy hcall
   have hco':=hco (by omega)
   clear hco
   go_wp2
   go_quiet ((go_at_call 135; exact Calls.quiet_of_same (HC.out _)))
   go_wp2
   go_roundw
   case rel =>
    refine ⟨k + 1,(c + (x + y)) / 4294967296,p ++ [(c + (x + y)) % 4294967296],by omega,by omega,by go_num,?_,⟨by simp [hp.out.1],hp.out.2.1.snoc (Nat.mod_lt _ (by decide)),sum_step HXe.out HYe.out rfl hp.out.1 hp.out.2.2⟩,?_,?_⟩
    ·
     go_num
    ·
     exact row_snoc (hrow.out) k hp.out.1.symm _ _ (by omega)
    ·
     exact (hkept.out.drewN nq).setCell (Nat.le_refl _) _
   case measure => simp [intOf]; omega
  ·
   obtain rfl:k = a.length:=by omega
   have hco':=hco (by omega)
   clear hco HX HY
   have hval:=hp.out.2.2
   rw [List.take_length,List.take_of_length_le (by omega)] at hval
   have HV:Hid (M.val p + 4294967296 ^ a.length * c = M.val a + M.val b):=hval
   clear hval
   go_wp2_with fail
   have hrow2:=row_snoc hrow.out a.length hp.out.1.symm c c rfl
   have hk2:Kept w (wr.setCell ⟨w.heap.size,a.length,none⟩ (.int .u32 (c:Int))):=hkept.out.setCell (Nat.le_refl _) _
   have hnew:=New.of_row (n:=a.length + 1) hrow2 (hp.out.2.1.snoc (by omega)) (by simp [hp.out.1]) (Nat.le_refl _) (Nat.le_refl _)
   refine (trim_new _ hnew (by simp [hp.out.1]; omega)).mono ?_
   rintro e w1 ⟨rfl,v',l',rfl,hn',ht',hv',hl'⟩
   have HK:Hid (Kept w (wr.setCell ⟨w.heap.size,a.length,none⟩ (.int .u32 (c:Int)))):=hk2
   have HN:Hid (New w.heap.size (wr.setCell ⟨w.heap.size,a.length,none⟩ (.int .u32 (c:Int))) v' l'):=hn'
   have HR:Hid (M.Tr l'∧M.val l' = M.val a + M.val b∧l'.length≤2000):=⟨ht',by rw [hv',M.val_snoc,hp.out.1]; have:=HV.out; omega,by simp [hp.out.1] at hl'; omega⟩
   clear hnew hrow2 hk2 hn' ht' hv' hl'
   go_wp2
   go_ret
   exact ⟨HK.out,v',l',rfl,HN.out,HR.out⟩
set_option maxHeartbeats 1000000 in
theorem sum_lt (va vb:Value) (a b:List Nat) (w:World) (ha:Sl w va a) (hb:Sl w vb b) (hla:a.length≤1000) (hlb:b.length≤1000) (hc:a.length < b.length) :
  Calls Tryz.prog 120 #[va,vb] w fun e w' => Kept w w'∧∃ v' l',e = .returned v'∧New w.heap.size w' v' l'∧M.Tr l'∧M.val l' = M.val a + M.val b∧l'.length≤2000:=by
 have ha':=ha
 have hb':=hb
 obtain ⟨bda,aoa,capa,rfl,hxa⟩:=ha
 obtain ⟨bdb,aob,capb,rfl,hxb⟩:=hb
 have HX:Hid (_):=hxb
 have HY:Hid (Sl w (.slice aoa a.length capa) a):=ha'
 clear hxa hxb ha' hb'
 have hmk:∀ w:World,(Instr.makeSlice 35 (.int .i64 ((b.length:Int) + 1)) (.int .i64 ((b.length:Int) + 1))).run Tryz.prog w = .ok (.slice (some ⟨w.heap.size,0,none⟩) (b.length + 1) (b.length + 1)) (w.alloc (.cells (madeCells #[.int .u32 0] (b.length + 1)) 40)):=fun w => by
  have h:=make_limbs (b.length + 1) (by omega) w
  rwa [show ((b.length + 1:Nat):Int) = (b.length:Int) + 1 by omega] at h
 go_enter Tryz.func120,Tryz.ntmps120
 go_wp2
 go_loopw [6,21] (fun vc vi wr => ∃ (k c:Nat) (p:List Nat),k≤b.length∧c≤1∧vi = .int .i64 k∧vc = .int .u64 c∧Hid (p.length = k∧M.Bd p∧M.val p + 4294967296 ^ k * c = M.val (b.take k) + M.val (a.take k)) ∧
   Hid (wr.rowIs w.heap.size 40 (b.length + 1) (fun j => .int .u32 ((p.getD j 0:Nat):Int)))∧Hid (Kept w wr)) (fun _ vi _ => b.length - (intOf vi).toNat)
 case atStart => exact ⟨0,0,[],Nat.zero_le _,by omega,rfl,rfl,⟨rfl,M.Bd_nil,by simp [M.val]⟩,row_made w _,(Kept.refl w).alloc _⟩
 case round =>
  obtain ⟨k,c,p,hk,hc1,rfl,rfl,hp,hrow,hkept⟩:=hrel
  have hf:wr.frozen? ⟨w.heap.size,k,none⟩ = false:=hrow.out.frozen _
  have hco:k≤b.length→wr.cell? ⟨w.heap.size,k,none⟩ = some (.int .u32 ((p.getD k 0:Nat):Int)):=fun h => hrow.out.cell (by omega)
  obtain ⟨z,hz⟩:∃ z:Int,z = ((p.getD k 0:Nat):Int):=⟨_,rfl⟩
  rw [← hz] at hco
  clear hz
  by_cases hlt:k < b.length
  ·
   obtain ⟨hcap,bx,ox,rfl,hbx,hcx⟩:=HX.out (by omega)
   have hck:wr.cell? ⟨bx,ox + k,none⟩ = some (.int .u32 ((b.getD k 0:Nat):Int)):=(hkept.out.cell (p:=⟨bx,ox + k,none⟩) hbx).trans (hcx k hlt)
   clear hcx
   have hxb:=bdb.getD k
   have hyb:=bda.getD k
   have hcall:∀ n,Calls Tryz.prog 135 #[.slice aoa a.length capa,.int .i64 k] (wr.drewN n) fun e w' => e = .returned (.int .u64 ((a.getD k 0:Nat):Int))∧w' = wr.drewN n:=fun n => by
    have h:=limbAt_any (wr.drewN n) ((HY.out.kept hkept.out).drewN n) (k:Int) (by omega) (by omega)
    rwa [Int.toNat_natCast] at h
   obtain ⟨x,hx⟩:∃ x,x = b.getD k 0:=⟨_,rfl⟩
   obtain ⟨y,hy⟩:∃ y,y = a.getD k 0:=⟨_,rfl⟩
   rw [← hx] at hck hxb
   rw [← hy] at hyb
   have HC:Hid (∀ n,Calls Tryz.prog 135 #[.slice aoa a.length capa,.int .i64 k] (wr.drewN n) fun e w' => e = .returned (.int .u64 (y:Int))∧w' = wr.drewN n):=by rw [hy]; exact hcall
   have HXe:Hid (x = b.getD k 0):=hx
   have HYe:Hid (y = a.getD k 0):=hy
   clear hx hy hcall
   have hco':=hco (by omega)
   clear hco
   go_wp2
   go_quiet ((go_at_call 135; exact Calls.quiet_of_same (HC.out _)))
   go_wp2
   go_roundw
   case rel =>
    refine ⟨k + 1,(c + (x + y)) / 4294967296,p ++ [(c + (x + y)) % 4294967296],by omega,by omega,by go_num,?_,⟨by simp [hp.out.1],hp.out.2.1.snoc (Nat.mod_lt _ (by decide)),sum_step HXe.out HYe.out rfl hp.out.1 hp.out.2.2⟩,?_,?_⟩
    ·
     go_num
    ·
     exact row_snoc (hrow.out) k hp.out.1.symm _ _ (by omega)
    ·
     exact (hkept.out.drewN nq).setCell (Nat.le_refl _) _
   case measure => simp [intOf]; omega
  ·
   obtain rfl:k = b.length:=by omega
   have hco':=hco (by omega)
   clear hco HX HY
   have hval:=hp.out.2.2
   rw [List.take_length,List.take_of_length_le (by omega)] at hval
   have HV:Hid (M.val p + 4294967296 ^ b.length * c = M.val b + M.val a):=hval
   clear hval
   go_wp2_with fail
   have hrow2:=row_snoc hrow.out b.length hp.out.1.symm c c rfl
   have hk2:Kept w (wr.setCell ⟨w.heap.size,b.length,none⟩ (.int .u32 (c:Int))):=hkept.out.setCell (Nat.le_refl _) _
   have hnew:=New.of_row (n:=b.length + 1) hrow2 (hp.out.2.1.snoc (by omega)) (by simp [hp.out.1]) (Nat.le_refl _) (Nat.le_refl _)
   refine (trim_new _ hnew (by simp [hp.out.1]; omega)).mono ?_
   rintro e w1 ⟨rfl,v',l',rfl,hn',ht',hv',hl'⟩
   have HK:Hid (Kept w (wr.setCell ⟨w.heap.size,b.length,none⟩ (.int .u32 (c:Int)))):=hk2
   have HN:Hid (New w.heap.size (wr.setCell ⟨w.heap.size,b.length,none⟩ (.int .u32 (c:Int))) v' l'):=hn'
   have HR:Hid (M.Tr l'∧M.val l' = M.val a + M.val b∧l'.length≤2000):=⟨ht',by rw [hv',M.val_snoc,hp.out.1]; have:=HV.out; omega,by simp [hp.out.1] at hl'; omega⟩
   clear hnew hrow2 hk2 hn' ht' hv' hl'
   go_wp2
   go_ret
   exact ⟨HK.out,v',l',rfl,HN.out,HR.out⟩
theorem sum_any (va vb:Value) (a b:List Nat) (w:World) (ha:Sl w va a) (hb:Sl w vb b) (hla:a.length≤1000) (hlb:b.length≤1000) :
  Calls Tryz.prog 120 #[va,vb] w fun e w' => Kept w w'∧∃ v' l',e = .returned v'∧New w.heap.size w' v' l'∧M.Tr l'∧M.val l' = M.val a + M.val b∧l'.length≤2000:=by
 by_cases h:b.length≤a.length
 ·
  exact sum_ge va vb a b w ha hb hla hlb h
 ·
  exact sum_lt va vb a b w ha hb hla hlb (by omega)
end Go.Proofs.YtdcgdpbgnijnpaaGreat

namespace Go.Proofs.YtdcgdpbgnijnpaaGreat
open Go.RowKit
theorem sub_wraps (x y c:Nat) (hx:x < 4294967296) (hy:y < 4294967296) (hc:c≤1) :
  IntKind.u64.wrap (IntKind.u64.wrap ((x:Int) - y) - c) / 9223372036854775808 = ((if y + c≤x then 0 else 1:Nat):Int) ∧
  IntKind.u64.wrap (IntKind.u64.wrap ((x:Int) - y) - c) % 4294967296 = ((if y + c≤x then x - y - c else x + 4294967296 - y - c:Nat):Int):=by
 rw [u64_wrap,u64_wrap]
 split <;> constructor <;> omega
theorem diff_step {a b p:List Nat} {k c x y:Nat} (hx:x = a.getD k 0) (hy:y = b.getD k 0) (hxb:x < 4294967296) (hyb:y < 4294967296) (hc:c≤1) (hp:p.length = k)
  (h:M.val (a.take k) + 4294967296 ^ k * c = M.val p + M.val (b.take k)) :
  M.val (a.take (k + 1)) + 4294967296 ^ (k + 1) * (if y + c≤x then 0 else 1) = M.val (p ++ [if y + c≤x then x - y - c else x + 4294967296 - y - c]) + M.val (b.take (k + 1)):=by
 rw [M.val_snoc,hp,M.take_succ_getD,M.take_succ_getD,← hx,← hy,Nat.pow_succ,Nat.mul_assoc]
 generalize 4294967296 ^ k = P at *
 split
 ·
  have e:P * x = P * (x - y - c) + P * y + P * c:=by rw [← Nat.mul_add,← Nat.mul_add]; congr 1; omega
  omega
 ·
  have e:P * x + P * (4294967296 * 1) = P * (x + 4294967296 - y - c) + P * y + P * c:=by rw [← Nat.mul_add,← Nat.mul_add,← Nat.mul_add]; congr 1; omega
  omega
set_option maxHeartbeats 1000000 in
theorem difference_any (va vb:Value) (a b:List Nat) (w:World) (ha:Sl w va a) (hb:Sl w vb b) (hla:a.length≤1000) (hlb:b.length≤1000) (hc:M.val b≤M.val a) (hlen:b.length≤a.length) :
  Calls Tryz.prog 122 #[va,vb] w fun e w' => Kept w w'∧∃ v' l',e = .returned v'∧New w.heap.size w' v' l'∧M.Tr l'∧M.val l' = M.val a - M.val b∧l'.length≤a.length:=by
 have hb':=hb
 obtain ⟨bda,aoa,capa,rfl,hxa⟩:=ha
 obtain ⟨bdb,aob,capb,rfl,hxb⟩:=hb
 have HX:Hid (_):=hxa
 have HY:Hid (Sl w (.slice aob b.length capb) b):=hb'
 have HCV:Hid (M.val b≤M.val a):=hc
 clear hxa hxb hb' hc
 have hmk:∀ w:World,(Instr.makeSlice 35 (.int .i64 (a.length:Int)) (.int .i64 (a.length:Int))).run Tryz.prog w = .ok (.slice (some ⟨w.heap.size,0,none⟩) a.length a.length) (w.alloc (.cells (madeCells #[.int .u32 0] a.length) 40)):=fun w => make_limbs a.length (by omega) w
 go_enter Tryz.func122,Tryz.ntmps122
 go_wp2
 go_loopw [6,14] (fun vc vi wr => ∃ (k c:Nat) (p:List Nat),k≤a.length∧c≤1∧vi = .int .i64 k∧vc = .int .u64 c∧Hid (p.length = k∧M.Bd p∧M.val (a.take k) + 4294967296 ^ k * c = M.val p + M.val (b.take k)) ∧
   Hid (wr.rowIs w.heap.size 40 a.length (fun j => .int .u32 ((p.getD j 0:Nat):Int)))∧Hid (Kept w wr)) (fun _ vi _ => a.length - (intOf vi).toNat)
 case atStart => exact ⟨0,0,[],Nat.zero_le _,by omega,rfl,rfl,⟨rfl,M.Bd_nil,by simp [M.val]⟩,row_made w _,(Kept.refl w).alloc _⟩
 case round =>
  obtain ⟨k,c,p,hk,hc1,rfl,rfl,hp,hrow,hkept⟩:=hrel
  by_cases hlt:k < a.length
  ·
   obtain ⟨hcap,bx,ox,rfl,hbx,hcx⟩:=HX.out (by omega)
   have hf:wr.frozen? ⟨w.heap.size,k,none⟩ = false:=hrow.out.frozen _
   have hco:wr.cell? ⟨w.heap.size,k,none⟩ = some (.int .u32 ((p.getD k 0:Nat):Int)):=hrow.out.cell (by omega)
   obtain ⟨z,hz⟩:∃ z:Int,z = ((p.getD k 0:Nat):Int):=⟨_,rfl⟩
   rw [← hz] at hco
   clear hz
   have hck:wr.cell? ⟨bx,ox + k,none⟩ = some (.int .u32 ((a.getD k 0:Nat):Int)):=(hkept.out.cell (p:=⟨bx,ox + k,none⟩) hbx).trans (hcx k hlt)
   clear hcx
   have hxb:=bda.getD k
   have hyb:=bdb.getD k
   have hcall:∀ n,Calls Tryz.prog 135 #[.slice aob b.length capb,.int .i64 k] (wr.drewN n) fun e w' => e = .returned (.int .u64 ((b.getD k 0:Nat):Int))∧w' = wr.drewN n:=fun n => by
    have h:=limbAt_any (wr.drewN n) ((HY.out.kept hkept.out).drewN n) (k:Int) (by omega) (by omega)
    rwa [Int.toNat_natCast] at h
   obtain ⟨x,hx⟩:∃ x,x = a.getD k 0:=⟨_,rfl⟩
   obtain ⟨y,hy⟩:∃ y,y = b.getD k 0:=⟨_,rfl⟩
   rw [← hx] at hck hxb
   rw [← hy] at hyb
   have HC:Hid (∀ n,Calls Tryz.prog 135 #[.slice aob b.length capb,.int .i64 k] (wr.drewN n) fun e w' => e = .returned (.int .u64 (y:Int))∧w' = wr.drewN n):=by rw [hy]; exact hcall
   have HXe:Hid (x = a.getD k 0):=hx
   have HYe:Hid (y = b.getD k 0):=hy
   clear hx hy hcall
   go_wp2
   go_quiet ((go_at_call 135; exact Calls.quiet_of_same (HC.out _)))
   go_wp2
   go_roundw
   case rel =>
    have hw:=sub_wraps x y c hxb hyb hc1
    refine ⟨k + 1,if y + c≤x then 0 else 1,p ++ [if y + c≤x then x - y - c else x + 4294967296 - y - c],by omega,by split <;> omega,by go_num,by rw [hw.1],
     ⟨by simp [hp.out.1],hp.out.2.1.snoc (by split <;> omega),diff_step HXe.out HYe.out hxb hyb hc1 hp.out.1 hp.out.2.2⟩,row_snoc (hrow.out) k hp.out.1.symm _ _ hw.2,(hkept.out.drewN nq).setCell (Nat.le_refl _) _⟩
   case measure => simp [intOf]; omega
  ·
   obtain rfl:k = a.length:=by omega
   have hval:=hp.out.2.2
   rw [List.take_length,List.take_of_length_le (by omega)] at hval
   have hlt2:=M.val_lt hp.out.2.1
   rw [hp.out.1] at hlt2
   have hc0:c = 0:=by
    have hcv:=HCV.out
    rcases Nat.lt_or_ge 0 c with h | h
    ·
     have e:c = 1:=by omega
     rw [e] at hval
     omega
    ·
     omega
   rw [hc0] at hval
   have hnew:=New.of_row (n:=a.length) hrow.out hp.out.2.1 hp.out.1.symm (Nat.le_refl _) (Nat.le_refl w.heap.size)
   have HN0:Hid (New w.heap.size wr (.slice (some ⟨w.heap.size,0,none⟩) a.length a.length) p):=hnew
   have HV:Hid (M.val a = M.val p + M.val b):=by
    show M.val a = M.val p + M.val b
    simpa using hval
   have HB:Hid (p.length≤a.length):=by rw [hp.out.1]; exact Nat.le_refl _
   clear HX HY hval hlt2 hnew hc0
   go_wp2_with fail
   refine (trim_new _ HN0.out (by have:=HB.out; omega)).mono ?_
   rintro e w1 ⟨rfl,v',l',rfl,hn',ht',hv',hl'⟩
   have HN:Hid (New w.heap.size w1 v' l'):=hn'
   have HR:Hid (M.Tr l'∧M.val l' = M.val a - M.val b∧l'.length≤a.length):=⟨ht',by rw [hv',HV.out]; omega,Nat.le_trans hl' HB.out⟩
   clear hn' ht' hv' hl'
   go_wp2
   go_ret
   exact ⟨hkept.out,v',l',rfl,HN.out,HR.out⟩
end Go.Proofs.YtdcgdpbgnijnpaaGreat

namespace Go.Proofs.YtdcgdpbgnijnpaaGreat
open Go.RowKit
theorem prod_step {b o:List Nat} {V x y i j c s:Nat} (hy:y = b.getD j 0) (hm:i + j < o.length) (hs:s = c + (x * y + o.getD (i + j) 0))
  (h:M.val o + 4294967296 ^ (i + j) * c = V + x * (4294967296 ^ i * M.val (b.take j))) :
  M.val (o.set (i + j) (s % 4294967296)) + 4294967296 ^ (i + (j + 1)) * (s / 4294967296) = V + x * (4294967296 ^ i * M.val (b.take (j + 1))):=by
 have h1:=val_set o (i + j) (s % 4294967296) hm
 rw [M.take_succ_getD,← hy,← Nat.add_assoc,Nat.pow_succ,Nat.mul_assoc]
 have e1:4294967296 ^ (i + j) * (s % 4294967296) + 4294967296 ^ (i + j) * (4294967296 * (s / 4294967296)) = 4294967296 ^ (i + j) * s:=by rw [← Nat.mul_add]; congr 1; omega
 have e2:4294967296 ^ (i + j) * s = 4294967296 ^ (i + j) * c + 4294967296 ^ (i + j) * (x * y) + 4294967296 ^ (i + j) * o.getD (i + j) 0:=by rw [hs,Nat.mul_add,Nat.mul_add]; omega
 have e3:x * (4294967296 ^ i * (M.val (b.take j) + 4294967296 ^ j * y)) = x * (4294967296 ^ i * M.val (b.take j)) + 4294967296 ^ (i + j) * (x * y):=by
  rw [Nat.mul_add,Nat.mul_add,Nat.pow_add]
  congr 1
  rw [← Nat.mul_assoc (4294967296 ^ i),Nat.mul_left_comm]
 omega
theorem prod_round {a b o:List Nat} {x i c:Nat} (hx:x = a.getD i 0) (hm:i + b.length < o.length) (hz:o.getD (i + b.length) 0 = 0)
  (h:M.val o + 4294967296 ^ (i + b.length) * c = M.val (a.take i) * M.val b + x * (4294967296 ^ i * M.val (b.take b.length))) :
  M.val (o.set (i + b.length) c) = M.val (a.take (i + 1)) * M.val b:=by
 have h1:=val_set o (i + b.length) c hm
 rw [hz] at h1
 rw [List.take_length] at h
 rw [M.take_succ_getD,← hx,Nat.add_mul]
 have e:4294967296 ^ i * x * M.val b = x * (4294967296 ^ i * M.val b):=by rw [Nat.mul_comm (4294967296 ^ i) x,Nat.mul_assoc]
 omega
theorem mul_bound {x y:Nat} (hx:x < 4294967296) (hy:y < 4294967296):x * y≤18446744065119617025:=by
 have:=Nat.mul_le_mul (Nat.le_of_lt_succ hx) (Nat.le_of_lt_succ hy)
 exact this
set_option maxHeartbeats 2000000 in
theorem product_any (va vb:Value) (a b:List Nat) (w:World) (ha:Sl w va a) (hb:Sl w vb b) (hla:a.length≤1000) (hlb:b.length≤1000) :
  Calls Tryz.prog 111 #[va,vb] w fun e w' => Kept w w'∧∃ v' l',e = .returned v'∧New w.heap.size w' v' l'∧M.Tr l'∧M.val l' = M.val a * M.val b∧l'.length≤a.length + b.length:=by
 obtain ⟨bda,aoa,capa,rfl,hxa⟩:=ha
 obtain ⟨bdb,aob,capb,rfl,hxb⟩:=hb
 have HA:Hid (_):=hxa
 have HB:Hid (_):=hxb
 clear hxa hxb
 have hmk:∀ w:World,(Instr.makeSlice 35 (.int .i64 ((a.length:Int) + (b.length:Int))) (.int .i64 ((a.length:Int) + (b.length:Int)))).run Tryz.prog w = .ok (.slice (some ⟨w.heap.size,0,none⟩) (a.length + b.length) (a.length + b.length)) (w.alloc (.cells (madeCells #[.int .u32 0] (a.length + b.length)) 40)):=fun w => by
  have h:=make_limbs (a.length + b.length) (by omega) w
  rwa [show ((a.length + b.length:Nat):Int) = (a.length:Int) + (b.length:Int) by omega] at h
 go_enter Tryz.func111,Tryz.ntmps111
 go_wp2
 go_loopw [19] (fun vi wr => ∃ (i:Nat) (o:List Nat),i≤a.length∧vi = .int .i64 i∧Hid (o.length = a.length + b.length∧M.Bd o∧(∀ j,i + b.length≤j→o.getD j 0 = 0)∧M.val o = M.val (a.take i) * M.val b) ∧
   Hid (wr.rowIs w.heap.size 40 (a.length + b.length) (fun j => .int .u32 ((o.getD j 0:Nat):Int)))∧Hid (Kept w wr)) (fun vi _ => a.length - (intOf vi).toNat)
 case atStart =>
  refine ⟨0,List.replicate (a.length + b.length) 0,Nat.zero_le _,rfl,⟨by simp,Bd_replicate _,fun j _ => ?_,by rw [val_replicate]; simp [M.val]⟩,(row_made w _).congr (fun j _ => ?_),(Kept.refl w).alloc _⟩
  ·
   rw [List.getD_eq_getElem?_getD,List.getElem?_replicate]; split <;> rfl
  ·
   rw [List.getD_eq_getElem?_getD,List.getD_eq_getElem?_getD,List.getElem?_replicate]; split <;> rfl
 case round =>
  obtain ⟨i,o,hi,rfl,ho,hrow,hkept⟩:=hrel
  by_cases hlt:i < a.length
  ·
   obtain ⟨_,ba,oa,rfl,hba,hca⟩:=HA.out (by omega)
   have hci:wr.cell? ⟨ba,oa + i,none⟩ = some (.int .u32 ((a.getD i 0:Nat):Int)):=(hkept.out.cell (p:=⟨ba,oa + i,none⟩) hba).trans (hca i hlt)
   have hxb:=bda.getD i
   obtain ⟨x,hx⟩:∃ x,x = a.getD i 0:=⟨_,rfl⟩
   rw [← hx] at hci hxb
   have HX:Hid (x = a.getD i 0):=hx
   clear hx hca
   go_wp2
   go_loopw [8,26] (fun vc vj wr2 => ∃ (j c:Nat) (o:List Nat),j≤b.length∧c≤4294967295∧vj = .int .i64 j∧vc = .int .u64 c∧Hid (o.length = a.length + b.length∧M.Bd o∧(∀ j,i + b.length≤j→o.getD j 0 = 0)∧M.val o + 4294967296 ^ (i + j) * c = M.val (a.take i) * M.val b + x * (4294967296 ^ i * M.val (b.take j))) ∧
     Hid (wr2.rowIs w.heap.size 40 (a.length + b.length) (fun j => .int .u32 ((o.getD j 0:Nat):Int)))∧Hid (Kept w wr2)) (fun _ vj _ => b.length - (intOf vj).toNat)
   case atStart => exact ⟨0,0,o,Nat.zero_le _,by omega,rfl,rfl,⟨ho.out.1,ho.out.2.1,ho.out.2.2.1,by rw [ho.out.2.2.2]; simp [M.val]⟩,hrow.out,hkept.out⟩
   case round =>
    obtain ⟨j,c,o,hj,hc,rfl,rfl,ho,hrow,hkept⟩:=hrel
    by_cases hjl:j < b.length
    ·
     obtain ⟨_,bb,ob,rfl,hbb,hcb⟩:=HB.out (by omega)
     have hcj:wr.cell? ⟨bb,ob + j,none⟩ = some (.int .u32 ((b.getD j 0:Nat):Int)):=(hkept.out.cell (p:=⟨bb,ob + j,none⟩) hbb).trans (hcb j hjl)
     have hyb:=bdb.getD j
     obtain ⟨y,hy⟩:∃ y,y = b.getD j 0:=⟨_,rfl⟩
     rw [← hy] at hcj hyb
     have HY:Hid (y = b.getD j 0):=hy
     have hf:wr.frozen? ⟨w.heap.size,i + j,none⟩ = false:=hrow.out.frozen _
     have hco:wr.cell? ⟨w.heap.size,i + j,none⟩ = some (.int .u32 ((o.getD (i + j) 0:Nat):Int)):=hrow.out.cell (by omega)
     have hzb:=ho.out.2.1.getD (i + j)
     obtain ⟨z,hz⟩:∃ z,z = o.getD (i + j) 0:=⟨_,rfl⟩
     rw [← hz] at hco hzb
     have HZ:Hid (z = o.getD (i + j) 0):=hz
     have hxy:=mul_bound hxb hyb
     have hxy1:(x:Int) * (y:Int)≤18446744065119617025:=by have:=Int.ofNat_le.2 hxy; simpa using this
     have hxy0:0≤(x:Int) * (y:Int):=by rw [← Int.natCast_mul]; exact Int.natCast_nonneg _
     clear hy hcb hz hxy HA HB
     go_wp2
     go_roundw
     case rel =>
      have hxyn:x * y≤18446744065119617025:=mul_bound hxb hyb
      have hm:i + j < o.length:=by rw [ho.out.1]; omega
      refine ⟨j + 1,(c + (x * y + z)) / 4294967296,o.set (i + j) ((c + (x * y + z)) % 4294967296),by omega,by omega,by go_num,?_,⟨by rw [List.length_set]; exact ho.out.1,Bd_set ho.out.2.1 _ _ (Nat.mod_lt _ (by decide)),fun j' hj' => ?_,prod_step HY.out hm (by rw [← HZ.out]) ho.out.2.2.2⟩,
       row_set hrow.out (i + j) hm _ _ (by simp),hkept.out.setCell (Nat.le_refl _) _⟩
      ·
       simp
      ·
       rw [getD_set _ _ _ _ hm,if_neg (by omega)]; exact ho.out.2.2.1 j' hj'
     case measure => simp [intOf]; omega
    ·
     obtain rfl:j = b.length:=by omega
     have hf:wr.frozen? ⟨w.heap.size,i + b.length,none⟩ = false:=hrow.out.frozen _
     have hco:wr.cell? ⟨w.heap.size,i + b.length,none⟩ = some (.int .u32 ((o.getD (i + b.length) 0:Nat):Int)):=hrow.out.cell (by omega)
     obtain ⟨z,hz⟩:∃ z:Int,z = ((o.getD (i + b.length) 0:Nat):Int):=⟨_,rfl⟩
     rw [← hz] at hco
     clear hz HA HB
     go_wp2
     go_roundw
     case rel =>
      have hm:i + b.length < o.length:=by rw [ho.out.1]; omega
      refine ⟨i + 1,o.set (i + b.length) c,by omega,by go_num,⟨by rw [List.length_set]; exact ho.out.1,Bd_set ho.out.2.1 _ _ (by omega),fun j' hj' => ?_,prod_round HX.out hm (ho.out.2.2.1 _ (Nat.le_refl _)) ho.out.2.2.2⟩,row_set hrow.out _ hm _ _ rfl,hkept.out.setCell (Nat.le_refl _) _⟩
      rw [getD_set _ _ _ _ hm,if_neg (by omega)]; exact ho.out.2.2.1 j' (by omega)
     case measure => simp [intOf]; omega
  ·
   obtain rfl:i = a.length:=by omega
   have hnew:=New.of_row (n:=a.length + b.length) hrow.out ho.out.2.1 ho.out.1.symm (Nat.le_refl _) (Nat.le_refl w.heap.size)
   have HN0:Hid (New w.heap.size wr (.slice (some ⟨w.heap.size,0,none⟩) (a.length + b.length) (a.length + b.length)) o):=hnew
   have HL:Hid (o.length = a.length + b.length):=ho.out.1
   have HV:Hid (M.val o = M.val a * M.val b):=by
    have:=ho.out.2.2.2
    rw [List.take_length] at this
    exact this
   clear HA HB hnew
   go_wp2_with fail
   refine (trim_new _ HN0.out (by have:=HL.out; omega)).mono ?_
   rintro e w1 ⟨rfl,v',l',rfl,hn',ht',hv',hl'⟩
   have HN:Hid (New w.heap.size w1 v' l'):=hn'
   have HR:Hid (M.Tr l'∧M.val l' = M.val a * M.val b∧l'.length≤a.length + b.length):=⟨ht',by rw [hv',HV.out],by rw [← HL.out]; exact hl'⟩
   clear hn' ht' hv' hl'
   go_wp2
   go_ret
   exact ⟨hkept.out,v',l',rfl,HN.out,HR.out⟩
end Go.Proofs.YtdcgdpbgnijnpaaGreat

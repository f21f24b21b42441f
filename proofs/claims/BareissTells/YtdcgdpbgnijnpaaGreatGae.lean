/- duplicate, divideSmall: a copy of a magnitude, and its division by one limb, in place. What a slice of int reads as, as digits in base 65536: the twin of the limbs' reading, for package shuntref01. trim of package shuntref01: the noughts at the top are cut off. What grows: a row of one's own, and its next cell. -/
import Derived.Test.YtdcgdpbgnijnpaaGreatGac
import Derived.Laws.AppendOwnNone
import Derived.Laws.Bits64b
import Derived.Test.YtdcgdpbgnijnpaaGreatGab
namespace Go.Proofs.YtdcgdpbgnijnpaaGreat
open Go.RowKit
def us (l:List Nat):List Value:=l.map (fun x => Value.int .u32 ((x:Nat):Int))
theorem us_getD (l:List Nat) (j:Nat) (hj:j < l.length):(us l)[j]? = some (.int .u32 ((l.getD j 0:Nat):Int)):=by
 rw [us,List.getElem?_map,List.getElem?_eq_getElem hj,List.getD_eq_getElem?_getD,List.getElem?_eq_getElem hj]; rfl
theorem New.of_owns {B:Nat} {w:World} {v:Value} {n:Nat} {l:List Nat} (h:w.ownsRow B 40 1 v n (us l)) (hb:M.Bd l):New B w v l:=by
 obtain ⟨h1,⟨rfl,h2⟩ | ⟨g,cap,cur,rfl,hB,hg,hn,_,hs,ht⟩⟩:=h
 ·
  have:l = []:=by
   apply List.length_eq_zero_iff.1
   simpa [us,h2] using h1
  subst this; exact New.nil _ _
 ·
  have hl:l.length = n:=by simpa [us] using h1
  subst hl
  refine ⟨hb,.inr ⟨g,cap,fun j => (cur[j]?).getD undef,rfl,hB,hn,⟨cur,hg,by omega,fun i hi => ?_⟩,fun j hj => ?_⟩⟩
  ·
   have hi':i < cur.size:=by omega
   simp [hi']
  ·
   have e:=us_getD l j hj
   rw [← ht,List.getElem?_take_of_lt (by omega),Array.getElem?_toList] at e
   show (cur[j]?).getD undef = _
   rw [e]; rfl
theorem Sl.news {w:World} {b off:Nat} {l:List Nat} (hc:∀ j,j < l.length→w.cell? ⟨b,off + j,none⟩ = some (.int .u32 ((l.getD j 0:Nat):Int))) :
  ∀ j u,(us l)[j]? = some u→w.cell? ((⟨b,off,none⟩:Addr).add j) = some u:=by
 intro j u hu
 have hj:j < l.length:=by
  have:=(List.getElem?_eq_some_iff.1 hu).1
  simpa [us] using this
 rw [us_getD l j hj] at hu
 cases hu
 by_cases h0:j = 0
 ·
  subst h0; exact hc 0 hj
 ·
  simp only [Addr.add,if_neg h0]; exact hc j hj
theorem us_oneCell (l:List Nat):∀ u ∈ us l,u.oneCell' = true:=by
 intro u hu
 rw [us,List.mem_map] at hu
 obtain ⟨x,_,rfl⟩:=hu
 rfl
set_option maxRecDepth 100000 in
set_option maxHeartbeats 1000000 in
theorem dup_some {v:Value} {l:List Nat} (w:World) (h:Sl w v l) (h0:0 < l.length) (hl:l.length≤1000000) :
  Calls Tryz.prog 136 #[v] w fun e w' => Kept w w'∧∃ v',e = .returned v'∧New w.heap.size w' v' l:=by
 obtain ⟨hb,ao,cap,rfl,hx⟩:=h
 obtain ⟨_,b,off,rfl,hlt,hc⟩:=hx h0
 have HC:Hid (∀ j,j < l.length→w.cell? ⟨b,off + j,none⟩ = some (.int .u32 ((l.getD j 0:Nat):Int))):=hc
 clear hc hx
 obtain ⟨i0,hi,hz0,hz1,hz2⟩:=info_parts Tryz.info40
 have hm:l.length≤maxLen:=by unfold maxLen; omega
 go_enter Tryz.func136,Tryz.ntmps136
 go_wp2_with (at_builtin; refine wpList_append_own _ rfl _ _ 35 rfl w.heap.size 40 i0 (.int .u32 0) 1 4 Tryz.underlying35 hi hz0 hz1 hz2 rfl (by decide) _ _ _ rfl (World.ownsRow_nil _ _ _ _) ⟨b,off,none⟩ l.length cap (us l) rfl (by simp [us]) (Sl.news HC.out) (us_oneCell l) (by omega) (by omega) (Nat.le_refl _) ?_)
 intro v' w1 hown hgrow _
 have HN:Hid (New w.heap.size w1 v' l):=New.of_owns (by simpa using hown) hb
 have HK:Hid (Kept w w1):=(Below.refl _ w).grown hgrow (Nat.le_refl _) (fun k hk => by simp [Value.ownBlock] at hk)
 clear hown hgrow
 go_wp2
 go_ret
 exact ⟨HK.out,v',rfl,HN.out⟩
theorem or_low (r x:Nat) (hr:r < 4294967296) (hx:x < 4294967296):bits .or .u64 ((r:Int) * 4294967296) (x:Int) = (r:Int) * 4294967296 + x:=by
 have h:=bits_or_u64_nat (r * 4294967296) x (by omega) (by omega)
 have e:=Nat.two_pow_add_eq_or_of_lt (i:=32) (b:=x) (by simpa using hx) r
 rw [Nat.mul_comm r 4294967296] at h
 rw [show (2:Nat) ^ 32 = 4294967296 from rfl] at e
 rw [← e] at h
 have h2:((4294967296 * r:Nat):Int) = (r:Int) * 4294967296:=by omega
 rw [h2] at h
 rw [h]; omega
theorem grown_set {w w':World} {b:Nat} (h:w.grownBy w' (some b)) (k:Nat) (v:Value):w.grownBy (w'.setCell ⟨b,k,none⟩ v) (some b) :=
 ⟨h.os,h.tape,h.output,by have:=h.size; simpa [World.setCell] using this,fun j hj hne => (Below.heap_setCell _ _ _ _ (by intro e; apply hne; rw [e])).trans (h.block j hj hne)⟩
theorem small_step {l o:List Nat} {k r by_ x s:Nat} (hk:0 < k) (hkl:k≤l.length) (hol:o.length = l.length) (hx:x = l.getD (k - 1) 0) (hs:s = r * 4294967296 + x)
  (h:M.val (l.drop k) = by_ * M.val (o.drop k) + r) :
  M.val (l.drop (k - 1)) = by_ * M.val ((o.set (k - 1) (s / by_)).drop (k - 1)) + s % by_:=by
 rw [M.drop_getD l (k - 1) (by omega),M.drop_getD _ (k - 1) (by rw [List.length_set]; omega),show k - 1 + 1 = k by omega,h,getD_set _ _ _ _ (by omega),if_pos rfl,List.drop_set_of_lt (by omega),← hx]
 have e1:=Nat.div_add_mod s by_
 have e2:by_ * (s / by_ + 4294967296 * M.val (o.drop k)) = by_ * (s / by_) + 4294967296 * (by_ * M.val (o.drop k)):=by
  rw [Nat.mul_add,Nat.mul_left_comm]
 rw [e2]
 omega
set_option maxHeartbeats 1000000 in
theorem small_any (b N:Nat) (f:Nat→Value) (l:List Nat) (d:Nat) (w:World) (hb:M.Bd l) (hd:0 < d) (hd2:d < 4294967296) (hl:l.length≤1000000) (hN:l.length≤N)
  (hr:w.rowIs b 40 N f) (hf:∀ j,j < l.length→f j = .int .u32 ((l.getD j 0:Nat):Int)) :
  Calls Tryz.prog 137 #[.slice (some ⟨b,0,none⟩) l.length N,.int .u32 (d:Int)] w fun e w' => w.grownBy w' (some b)∧∃ q r,e = .returned (.int .u32 ((r:Nat):Int)) ∧
   New b w' (.slice (some ⟨b,0,none⟩) l.length N) q∧q.length = l.length∧M.val l = d * M.val q + r∧r < d:=by
 obtain ⟨n,hn⟩:∃ n,n = l.length:=⟨_,rfl⟩
 rw [← hn] at hl hN hf ⊢
 have HL:Hid (n = l.length):=hn
 have HF:Hid (_):=hf
 have HR:Hid (_):=hr
 clear hn hf hr
 go_enter Tryz.func137,Tryz.ntmps137
 go_wp2
 go_loopw [5,6] (fun vr vi wr => ∃ (k r:Nat) (o:List Nat),k≤n∧r < d∧vi = .int .i64 ((k:Int) - 1)∧vr = .int .u64 (r:Int)∧Hid (o.length = l.length∧M.Bd o∧(∀ j,j < k→o.getD j 0 = l.getD j 0)∧M.val (l.drop k) = d * M.val (o.drop k) + r) ∧
   Hid (∃ g,wr.rowIs b 40 N g∧∀ j,j < n→g j = .int .u32 ((o.getD j 0:Nat):Int))∧Hid (w.grownBy wr (some b))) (fun _ vi _ => (intOf vi + 1).toNat)
 case atStart => exact ⟨n,0,l,Nat.le_refl _,hd,rfl,rfl,⟨rfl,hb,fun _ _ => rfl,by rw [List.drop_of_length_le (by rw [HL.out]; exact Nat.le_refl _)]; simp [M.val]⟩,⟨f,HR.out,HF.out⟩,World.grownBy.refl _ _⟩
 case round =>
  obtain ⟨k,r,o,hk,hrd,rfl,rfl,ho,hrow,hgr⟩:=hrel
  obtain ⟨g,hrw,hg⟩:=hrow.out
  by_cases h0:k = 0
  ·
   subst h0
   clear hrw hg
   go_wp2
   go_ret
   obtain ⟨g,hrw,hg⟩:=hrow.out
   refine ⟨hgr.out,o,r,rfl,⟨ho.out.2.1,.inr ⟨b,N,g,by rw [ho.out.1,← HL.out],Nat.le_refl _,by rw [ho.out.1,← HL.out]; exact hN,hrw,fun j hj => hg j (by rw [HL.out,← ho.out.1]; exact hj)⟩⟩,by rw [ho.out.1,HL.out],by simpa using ho.out.2.2.2,hrd⟩
  ·
   have hck:wr.cell? ⟨b,k - 1,none⟩ = some (.int .u32 ((l.getD (k - 1) 0:Nat):Int)):=by rw [hrw.cell (by omega),hg _ (by omega),ho.out.2.2.1 _ (by omega)]
   have hfz:wr.frozen? ⟨b,k - 1,none⟩ = false:=hrw.frozen _
   have hbd:=hb.getD (k - 1)
   obtain ⟨x,hx⟩:∃ x,x = l.getD (k - 1) 0:=⟨_,rfl⟩
   rw [← hx] at hck hbd
   have HX:Hid (x = l.getD (k - 1) 0):=hx
   have h1:1≤k:=by omega
   have hor:=or_low r x (by omega) hbd
   clear hx hrw hg
   go_wp2
   go_roundw
   case rel =>
    obtain ⟨g,hrw,hg⟩:=hrow.out
    have hol:o.length = n:=by rw [ho.out.1,← HL.out]
    have hq:(r * 4294967296 + x) / d < 4294967296:=by
     rw [Nat.div_lt_iff_lt_mul hd]
     have:r * 4294967296 + 4294967296≤d * 4294967296:=by have:=Nat.mul_le_mul_right 4294967296 (show r + 1≤d from hrd); omega
     rw [Nat.mul_comm 4294967296 d]; omega
    refine ⟨k - 1,(r * 4294967296 + x) % d,o.set (k - 1) ((r * 4294967296 + x) / d),by omega,Nat.mod_lt _ hd,by go_num,by simp,⟨by rw [List.length_set]; exact ho.out.1,Bd_set ho.out.2.1 _ _ hq,fun j hj => ?_,small_step h1 (by rw [← HL.out]; exact hk) ho.out.1 HX.out rfl ho.out.2.2.2⟩,⟨_,hrw.set _ _,fun j hj => ?_⟩,grown_set hgr.out _ _⟩
    ·
     rw [getD_set _ _ _ _ (by omega),if_neg (by omega)]; exact ho.out.2.2.1 j (by omega)
    ·
     rw [getD_set _ _ _ _ (by omega)]
     by_cases e:j = k - 1
     ·
      rw [if_pos e,if_pos e]
      have e2:((r:Int) * 4294967296 + (x:Int)) / (d:Int) = (((r * 4294967296 + x) / d:Nat):Int):=by simp
      rw [e2]
      generalize (r * 4294967296 + x) / d = qq at hq ⊢
      congr 1
      omega
     ·
      rw [if_neg e,if_neg e]; exact hg j hj
   case measure => simp [intOf]; omega
end Go.Proofs.YtdcgdpbgnijnpaaGreat

namespace Go.Proofs.YtdcgdpbgnijnpaaGreat
open Go.RowKit
theorem infoI:(Tryz.prog.info? 3).map (fun i => (i.zero,i.size,i.bytes)) = some (some (.int .i64 0),1,8):=by kernel_rfl
namespace D
def Sl (w:World) (v:Value) (l:List Nat):Prop :=
 D.Bd l∧∃ (ao:Option Addr) (cap:Nat),v = .slice ao l.length cap ∧
  (0 < l.length→l.length≤cap∧∃ b off:Nat,ao = some ⟨b,off,none⟩∧b < w.heap.size∧∀ j,j < l.length→w.cell? ⟨b,off + j,none⟩ = some (.int .i64 ((l.getD j 0:Nat):Int)))
theorem Sl.bd {w:World} {v:Value} {l:List Nat} (h:Sl w v l):D.Bd l:=h.1
theorem Sl.kept {w w':World} {v:Value} {l:List Nat} (h:Sl w v l) (k:Kept w w'):Sl w' v l:=by
 obtain ⟨hb,ao,cap,rfl,hx⟩:=h
 refine ⟨hb,ao,cap,rfl,fun h0 => ?_⟩
 obtain ⟨h1,b,off,rfl,hlt,hc⟩:=hx h0
 refine ⟨h1,b,off,rfl,Nat.lt_of_lt_of_le hlt k.size,fun j hj => ?_⟩
 rw [Below.cell k (p:=⟨b,off + j,none⟩) hlt]
 exact hc j hj
theorem Sl.nil (w:World) (ao:Option Addr) (cap:Nat):Sl w (.slice ao 0 cap) [] :=
 ⟨D.Bd_nil,ao,cap,rfl,fun h => absurd h (by decide)⟩
theorem Sl.of_row {w:World} {b N cap n:Nat} {t:TypeId} {p:List Nat} (h:w.rowIs b t N (fun j => .int .i64 ((p.getD j 0:Nat):Int))) (hp:D.Bd p) (hn:n = p.length) (hN:n≤N) (hc:n≤cap) :
  Sl w (.slice (some ⟨b,0,none⟩) n cap) p:=by
 subst hn
 exact ⟨hp,_,cap,rfl,fun _ => ⟨hc,b,0,rfl,h.lt,fun j hj => by rw [Nat.zero_add]; exact h.cell (by omega)⟩⟩
def New (B:Nat) (w:World) (v:Value) (l:List Nat):Prop :=
 D.Bd l∧((v = .slice none 0 0∧l = []) ∨ ∃ (b N:Nat) (f:Nat→Value),v = .slice (some ⟨b,0,none⟩) l.length N∧B≤b∧l.length≤N∧w.rowIs b 3 N f∧∀ j,j < l.length→f j = .int .i64 ((l.getD j 0:Nat):Int))
theorem New.sl {B:Nat} {w:World} {v:Value} {l:List Nat} (h:New B w v l):Sl w v l:=by
 obtain ⟨hb,⟨rfl,rfl⟩ | ⟨b,N,f,rfl,_,hN,hr,hf⟩⟩:=h
 ·
  exact Sl.nil _ _ _
 ·
  exact ⟨hb,_,N,rfl,fun _ => ⟨hN,b,0,rfl,hr.lt,fun j hj => by rw [Nat.zero_add,hr.cell (by omega),hf j hj]⟩⟩
theorem New.kept {B:Nat} {w w':World} {v:Value} {l:List Nat} (h:New B w v l) (k:Kept w w'):New B w' v l:=by
 obtain ⟨hb,⟨rfl,rfl⟩ | ⟨b,N,f,rfl,hB,hN,hr,hf⟩⟩:=h
 ·
  exact ⟨hb,.inl ⟨rfl,rfl⟩⟩
 ·
  exact ⟨hb,.inr ⟨b,N,f,rfl,hB,hN,hr.of_block (k.block b hr.lt),hf⟩⟩
theorem New.mono {B B':Nat} {w:World} {v:Value} {l:List Nat} (h:New B w v l) (hB:B'≤B):New B' w v l:=by
 obtain ⟨hb,⟨rfl,rfl⟩ | ⟨b,N,f,rfl,h1,hN,hr,hf⟩⟩:=h
 ·
  exact ⟨hb,.inl ⟨rfl,rfl⟩⟩
 ·
  exact ⟨hb,.inr ⟨b,N,f,rfl,by omega,hN,hr,hf⟩⟩
theorem New.nil (B:Nat) (w:World):New B w (.slice none 0 0) []:=⟨D.Bd_nil,.inl ⟨rfl,rfl⟩⟩
theorem New.of_row {B:Nat} {w:World} {b N n:Nat} {p:List Nat} (h:w.rowIs b 3 N (fun j => .int .i64 ((p.getD j 0:Nat):Int))) (hp:D.Bd p) (hn:n = p.length) (hN:n≤N) (hB:B≤b) :
  New B w (.slice (some ⟨b,0,none⟩) n N) p:=by
 subst hn; exact ⟨hp,.inr ⟨b,N,_,rfl,hB,hN,h,fun _ _ => rfl⟩⟩
theorem New.len {B:Nat} {w:World} {ao:Option Addr} {n c:Nat} {l:List Nat} (h:New B w (.slice ao n c) l):n = l.length:=by
 obtain ⟨hb,⟨hv,rfl⟩ | ⟨b',N',f,hv,hB,hN,hr,hf⟩⟩:=h
 ·
  simp at hv; simp [hv]
 ·
  simp at hv; exact hv.2.1
theorem row_snoc {w:World} {b N:Nat} {p:List Nat} (h:w.rowIs b 3 N (fun j => .int .i64 ((p.getD j 0:Nat):Int))) (k:Nat) (hk:k = p.length) (x:Nat) (y:Int) (hy:y = x) :
  (w.setCell ⟨b,k,none⟩ (.int .i64 y)).rowIs b 3 N (fun j => .int .i64 (((p ++ [x]).getD j 0:Nat):Int)):=by
 subst hy hk
 refine (h.set p.length (.int .i64 x)).congr (fun j _ => ?_)
 rw [D.getD_snoc]
 split <;> rfl
theorem row_made (w:World) (n:Nat):(w.alloc (.cells (madeCells #[.int .i64 0] n) 3)).rowIs w.heap.size 3 n (fun j => .int .i64 ((([]:List Nat).getD j 0:Nat):Int)) :=
 (World.rowIs_made w (.int .i64 0) n 3).congr (fun _ _ => by simp)
theorem New.shape {B:Nat} {w:World} {v:Value} {l:List Nat} (h:New B w v l):∃ ao cap,v = .slice ao l.length cap:=by
 obtain ⟨_,⟨rfl,rfl⟩ | ⟨b,N,f,rfl,_⟩⟩:=h
 ·
  exact ⟨_,_,rfl⟩
 ·
  exact ⟨_,_,rfl⟩
theorem New.other {B:Nat} {w:World} {v:Value} {l:List Nat} (h:New B w v l) {p:Addr} (hp:p.block < B) (u:Value):New B (w.setCell p u) v l:=by
 obtain ⟨hb,⟨rfl,rfl⟩ | ⟨b,N,f,rfl,hB,hN,hr,hf⟩⟩:=h
 ·
  exact ⟨hb,.inl ⟨rfl,rfl⟩⟩
 ·
  exact ⟨hb,.inr ⟨b,N,f,rfl,hB,hN,hr.setOther (by omega) u,hf⟩⟩
theorem val_set (o:List Nat):∀ (m v:Nat),m < o.length→D.val (o.set m v) + 65536 ^ m * o.getD m 0 = D.val o + 65536 ^ m * v:=by
 induction o with
 | nil => intro m v h; simp at h
 | cons x o ih =>
  intro m v h
  cases m with
  | zero => simp [D.val]; omega
  | succ m =>
   have:=ih m v (by simpa using h)
   simp only [List.set_cons_succ,D.val,Nat.pow_succ,List.getD_cons_succ]
   have e1:65536 ^ m * 65536 * o.getD m 0 = 65536 * (65536 ^ m * o.getD m 0):=by rw [Nat.mul_comm (65536 ^ m) 65536,Nat.mul_assoc]
   have e2:65536 ^ m * 65536 * v = 65536 * (65536 ^ m * v):=by rw [Nat.mul_comm (65536 ^ m) 65536,Nat.mul_assoc]
   omega
theorem Bd_set {o:List Nat} (h:D.Bd o) (m v:Nat) (hv:v < 65536):D.Bd (o.set m v):=by
 intro x hx
 rcases List.mem_or_eq_of_mem_set hx with h1 | h1
 ·
  exact h x h1
 ·
  omega
theorem Bd_replicate (n:Nat):D.Bd (List.replicate n 0):=by
 intro x hx; rw [List.mem_replicate] at hx; omega
theorem val_replicate (n:Nat):D.val (List.replicate n 0) = 0:=by
 induction n with
 | zero => rfl
 | succ n ih => rw [List.replicate_succ,D.val,ih]
theorem row_set {w:World} {b N:Nat} {o:List Nat} (h:w.rowIs b 3 N (fun j => .int .i64 ((o.getD j 0:Nat):Int))) (m:Nat) (hm:m < o.length) (v:Nat) (y:Int) (hy:y = v) :
  (w.setCell ⟨b,m,none⟩ (.int .i64 y)).rowIs b 3 N (fun j => .int .i64 (((o.set m v).getD j 0:Nat):Int)):=by
 subst hy
 refine (h.set m (.int .i64 v)).congr (fun j _ => ?_)
 rw [getD_set _ _ _ _ hm]
 split <;> rfl
theorem make_digits (n:Nat) (hn:n≤100000000) (w:World) :
  (Instr.makeSlice 41 (.int .i64 (n:Int)) (.int .i64 (n:Int))).run Tryz.prog w = .ok (.slice (some ⟨w.heap.size,0,none⟩) n n) (w.alloc (.cells (madeCells #[.int .i64 0] n) 3)) :=
 run_make_row' 41 3 (.int .i64 0) 8 Tryz.underlying41 infoI rfl .i64 .i64 n (by omega) (by omega) w
def us (l:List Nat):List Value:=l.map (fun x => Value.int .i64 ((x:Nat):Int))
theorem us_getD (l:List Nat) (j:Nat) (hj:j < l.length):(us l)[j]? = some (.int .i64 ((l.getD j 0:Nat):Int)):=by
 rw [us,List.getElem?_map,List.getElem?_eq_getElem hj,List.getD_eq_getElem?_getD,List.getElem?_eq_getElem hj]; rfl
theorem New.of_owns {B:Nat} {w:World} {v:Value} {n:Nat} {l:List Nat} (h:w.ownsRow B 3 1 v n (us l)) (hb:D.Bd l):New B w v l:=by
 obtain ⟨h1,⟨rfl,h2⟩ | ⟨g,cap,cur,rfl,hB,hg,hn,_,hs,ht⟩⟩:=h
 ·
  have:l = []:=by
   apply List.length_eq_zero_iff.1
   simpa [us,h2] using h1
  subst this; exact New.nil _ _
 ·
  have hl:l.length = n:=by simpa [us] using h1
  subst hl
  refine ⟨hb,.inr ⟨g,cap,fun j => (cur[j]?).getD undef,rfl,hB,hn,⟨cur,hg,by omega,fun i hi => ?_⟩,fun j hj => ?_⟩⟩
  ·
   have hi':i < cur.size:=by omega
   simp [hi']
  ·
   have e:=us_getD l j hj
   rw [← ht,List.getElem?_take_of_lt (by omega),Array.getElem?_toList] at e
   show (cur[j]?).getD undef = _
   rw [e]; rfl
theorem Sl.news {w:World} {b off:Nat} {l:List Nat} (hc:∀ j,j < l.length→w.cell? ⟨b,off + j,none⟩ = some (.int .i64 ((l.getD j 0:Nat):Int))) :
  ∀ j u,(us l)[j]? = some u→w.cell? ((⟨b,off,none⟩:Addr).add j) = some u:=by
 intro j u hu
 have hj:j < l.length:=by
  have:=(List.getElem?_eq_some_iff.1 hu).1
  simpa [us] using this
 rw [us_getD l j hj] at hu
 cases hu
 by_cases h0:j = 0
 ·
  subst h0; exact hc 0 hj
 ·
  simp only [Addr.add,if_neg h0]; exact hc j hj
theorem us_oneCell (l:List Nat):∀ u ∈ us l,u.oneCell' = true:=by
 intro u hu
 rw [us,List.mem_map] at hu
 obtain ⟨x,_,rfl⟩:=hu
 rfl
theorem us_snoc (gs:List Nat) (x:Nat):us (gs ++ [x]) = us gs ++ [.int .i64 (x:Int)]:=by simp [us]
theorem val_lt_of_top {a b:List Nat} {k:Nat} (ha:D.Bd a) (hk:0 < k) (hka:k≤a.length) (hl:a.length = b.length) (hd:a.drop k = b.drop k) (h:a.getD (k - 1) 0 < b.getD (k - 1) 0):D.val a < D.val b:=by
 rw [D.take_drop_val a (k - 1) (by omega),D.take_drop_val b (k - 1) (by omega),D.drop_getD a (k - 1) (by omega),D.drop_getD b (k - 1) (by omega)]
 rw [show k - 1 + 1 = k by omega,hd]
 have h1:=D.val_lt (ha.take (k - 1))
 rw [List.length_take,Nat.min_eq_left (by omega)] at h1
 have h2:65536 ^ (k - 1) * (a.getD (k - 1) 0 + 1 + 65536 * D.val (b.drop k))≤65536 ^ (k - 1) * (b.getD (k - 1) 0 + 65536 * D.val (b.drop k)):=Nat.mul_le_mul_left _ (by omega)
 have h3:65536 ^ (k - 1) * (a.getD (k - 1) 0 + 1 + 65536 * D.val (b.drop k)) = 65536 ^ (k - 1) * (a.getD (k - 1) 0 + 65536 * D.val (b.drop k)) + 65536 ^ (k - 1):=by
  rw [Nat.mul_add,Nat.mul_add,Nat.mul_add]; omega
 omega
theorem val_lt_of_len {a b:List Nat} (ha:D.Bd a) (hb:D.Tr b) (h:a.length < b.length):D.val a < D.val b:=by
 rcases Nat.lt_or_ge (D.val a) (D.val b) with h1 | h1
 ·
  exact h1
 ·
  have:=D.len_le_of_val_le hb ha h1; omega
end D
end Go.Proofs.YtdcgdpbgnijnpaaGreat

namespace Go.Proofs.YtdcgdpbgnijnpaaGreat
open Go.RowKit
namespace D
theorem Sl.take {w:World} {ao:Option Addr} {cap:Nat} {l:List Nat} (h:Sl w (.slice ao l.length cap) l) (n:Nat) (hn:n≤l.length) :
  Sl w (.slice ao n cap) (l.take n):=by
 have e1:(l.take n).length = n:=by rw [List.length_take]; omega
 obtain ⟨hb,ao',cap',hv,hx⟩:=h
 simp only [Value.slice.injEq,true_and] at hv
 obtain ⟨rfl,rfl⟩:=hv
 refine ⟨hb.take n,ao,cap,by rw [e1],fun h0 => ?_⟩
 rw [e1] at h0
 obtain ⟨hc,b,off,e,hlt,hcell⟩:=hx (by omega)
 refine ⟨by omega,b,off,e,hlt,fun j hj => ?_⟩
 rw [e1] at hj
 rw [hcell j (by omega),List.getD_eq_getElem?_getD,List.getD_eq_getElem?_getD,List.getElem?_take_of_lt hj]
set_option maxHeartbeats 400000 in
theorem trim_raw (ao:Option Addr) (cap:Nat) (l:List Nat) (w:World) (h:Sl w (.slice ao l.length cap) l) (hl:l.length≤100000000) :
  Calls Tryz.prog 86 #[.slice ao l.length cap] w fun e w' => w' = w∧∃ n,n≤l.length∧D.Tr (l.take n)∧D.val (l.take n) = D.val l ∧
   ∃ ao' cap',e = .returned (.slice ao' n cap')∧(0 < n→ao' = ao∧cap' = cap):=by
 obtain ⟨hb,ao',cap',hv,hx⟩:=h
 simp only [Value.slice.injEq,true_and] at hv
 obtain ⟨rfl,rfl⟩:=hv
 obtain ⟨len,hlen⟩:∃ len,len = l.length:=⟨_,rfl⟩
 rw [← hlen] at hx hl ⊢
 have HL:Hid (len = l.length):=hlen
 have HX:Hid (0 < len→len≤cap∧∃ b off:Nat,ao = some ⟨b,off,none⟩∧b < w.heap.size∧∀ j,j < len→w.cell? ⟨b,off + j,none⟩ = some (.int .i64 ((l.getD j 0:Nat):Int))):=hx
 clear hx hlen
 go_enter Tryz.func86,Tryz.ntmps86
 go_wp2
 go_loop [3] (fun n => ∃ k:Nat,k≤len∧n = .int .i64 k∧Hid (∀ j,k≤j→l.getD j 0 = 0)) (fun n => (intOf n).toNat)
 case atStart => exact ⟨len,Nat.le_refl _,rfl,fun j hj => by rw [HL.out] at hj; rw [List.getD_eq_getElem?_getD,List.getElem?_eq_none hj]; rfl⟩
 case round =>
  obtain ⟨k,hk,rfl,hz⟩:=hrel
  by_cases h0:k = 0
  ·
   subst h0
   cases ao with
   | none =>
    go_wp2
    go_ret
    exact ⟨rfl,0,Nat.zero_le _,Or.inl (by simp),D.val_drop_zero hz.out,_,_,rfl,fun h => absurd h (by decide)⟩
   | some p =>
    go_wp2
    go_ret
    exact ⟨rfl,0,Nat.zero_le _,Or.inl (by simp),D.val_drop_zero hz.out,_,_,rfl,fun h => absurd h (by decide)⟩
  ·
   obtain ⟨hcap,b,off,rfl,hlt,hc⟩:=HX.out (by omega)
   have hck:=hc (k - 1) (by omega)
   clear HX hc
   have hbd:=hb.getD (k - 1)
   obtain ⟨x,hxe⟩:∃ x,x = l.getD (k - 1) 0:=⟨_,rfl⟩
   rw [← hxe] at hck hbd
   have HXE:Hid (x = l.getD (k - 1) 0):=hxe
   clear hxe
   have h1:1≤k:=by omega
   by_cases hx0:x = 0
   ·
    subst hx0
    go_wp2
    go_round
    case rel => exact ⟨k - 1,by omega,by go_num,fun j hj => by
     by_cases e:j = k - 1
     ·
      rw [e]; exact HXE.out.symm
     ·
      exact hz.out j (by omega)⟩
    case measure => simp [intOf]; omega
   ·
    have hx1:((x:Int) == 0) = false:=by simp; omega
    go_wp2
    go_ret
    refine ⟨rfl,k,hk,Or.inr ?_,D.val_drop_zero hz.out,_,_,rfl,fun _ => ⟨rfl,rfl⟩⟩
    have e1:(l.take k).length = k:=by rw [List.length_take]; have:=HL.out; omega
    rw [e1,List.getD_eq_getElem?_getD,List.getElem?_take_of_lt (by omega),← List.getD_eq_getElem?_getD,← HXE.out]
    exact hx0
theorem trim_any {v:Value} {l:List Nat} (w:World) (h:Sl w v l) (hl:l.length≤100000000) :
  Calls Tryz.prog 86 #[v] w fun e w' => w' = w∧∃ v' l',e = .returned v'∧Sl w v' l'∧D.Tr l'∧D.val l' = D.val l∧l'.length≤l.length:=by
 have h':=h
 obtain ⟨hb,ao,cap,rfl,hx⟩:=h
 refine (trim_raw ao cap l w h' hl).mono ?_
 rintro e w' ⟨rfl,n,hn,ht,hval,ao',cap',rfl,hsame⟩
 have e1:(l.take n).length = n:=by rw [List.length_take]; omega
 refine ⟨rfl,_,_,rfl,?_,ht,hval,by rw [List.length_take]; omega⟩
 by_cases h0:0 < n
 ·
  obtain ⟨rfl,rfl⟩:=hsame h0
  exact h'.take n hn
 ·
  have:n = 0:=by omega
  subst this
  exact Sl.nil _ _ _
def NewE (B:Nat) (w:World) (v:Value) (l:List Nat):Prop:=Sl w v l∧(0 < l.length→∃ b n cap,v = .slice (some ⟨b,0,none⟩) n cap∧B≤b)
theorem New.newE {B:Nat} {w:World} {v:Value} {l:List Nat} (h:New B w v l):NewE B w v l:=by
 refine ⟨h.sl,fun h0 => ?_⟩
 obtain ⟨_,⟨_,rfl⟩ | ⟨b,N,f,rfl,hB,_⟩⟩:=h
 ·
  simp at h0
 ·
  exact ⟨b,_,_,rfl,hB⟩
theorem NewE.kept {B:Nat} {w w':World} {v:Value} {l:List Nat} (h:NewE B w v l) (k:Kept w w'):NewE B w' v l:=⟨h.1.kept k,h.2⟩
theorem NewE.mono {B B':Nat} {w:World} {v:Value} {l:List Nat} (h:NewE B w v l) (hB:B'≤B):NewE B' w v l:=⟨h.1,fun h0 => by
 obtain ⟨b,n,cap,e,hb⟩:=h.2 h0
 exact ⟨b,n,cap,e,by omega⟩⟩
theorem NewE.other {B:Nat} {w:World} {v:Value} {l:List Nat} (h:NewE B w v l) {p:Addr} (hp:p.block < B) (u:Value):Sl (w.setCell p u) v l:=by
 obtain ⟨⟨hb,ao,cap,rfl,hx⟩,h2⟩:=h
 refine ⟨hb,ao,cap,rfl,fun h0 => ?_⟩
 obtain ⟨h3,b,off,rfl,hlt,hc⟩:=hx h0
 refine ⟨h3,b,off,rfl,by simpa using hlt,fun j hj => ?_⟩
 obtain ⟨b',n',c',e,hB⟩:=h2 h0
 simp only [Value.slice.injEq,Option.some.injEq,Addr.mk.injEq] at e
 obtain ⟨⟨rfl,_,_⟩,_,_⟩:=e
 rw [World.cell?_setCell_other _ _ _ _ (by intro e; rw [e] at hp; simp at hp; omega)]
 exact hc j hj
theorem NewE.otherE {B:Nat} {w:World} {v:Value} {l:List Nat} (h:NewE B w v l) {p:Addr} (hp:p.block < B) (u:Value):NewE B (w.setCell p u) v l:=⟨h.other hp u,h.2⟩
theorem trim_newE {B:Nat} {v:Value} {l:List Nat} (w:World) (h:New B w v l) (hl:l.length≤100000000) :
  Calls Tryz.prog 86 #[v] w fun e w' => w' = w∧∃ v' l',e = .returned v'∧NewE B w v' l'∧D.Tr l'∧D.val l' = D.val l∧l'.length≤l.length:=by
 have h':=h.sl
 have hE:=h.newE
 obtain ⟨hb,ao,cap,rfl,hx⟩:=h.sl
 refine (trim_raw ao cap l w h' hl).mono ?_
 rintro e w' ⟨rfl,n,hn,ht,hval,ao',cap',rfl,hsame⟩
 have e1:(l.take n).length = n:=by rw [List.length_take]; omega
 refine ⟨rfl,_,_,rfl,?_,ht,hval,by rw [List.length_take]; omega⟩
 by_cases h0:0 < n
 ·
  obtain ⟨rfl,rfl⟩:=hsame h0
  refine ⟨h'.take n hn,fun _ => ?_⟩
  obtain ⟨b,m,c,e,hB⟩:=hE.2 (by omega)
  simp only [Value.slice.injEq] at e
  exact ⟨b,n,_,by rw [e.1],hB⟩
 ·
  have:n = 0:=by omega
  subst this
  exact ⟨Sl.nil _ _ _,fun h => by simp at h⟩
end D
end Go.Proofs.YtdcgdpbgnijnpaaGreat

namespace Go.Proofs.YtdcgdpbgnijnpaaGreat
open Go.RowKit
theorem cell_new (w:World) (x:Value) (t:TypeId):∀ j u,([x]:List Value)[j]? = some u→(w.alloc (.cells #[x] t)).cell? ((⟨w.heap.size,0,none⟩:Addr).add j) = some u:=by
 intro j u hj
 match j,hj with
 | 0,hj => simp at hj; subst hj; simp [Addr.add]
theorem New.lt {B b N len:Nat} {w:World} {l:List Nat} (h:New B w (.slice (some ⟨b,0,none⟩) len N) l):b < w.heap.size∧∃ f,w.rowIs b 40 N f∧∀ j,j < l.length→f j = .int .u32 ((l.getD j 0:Nat):Int):=by
 obtain ⟨hb,⟨hv,_⟩ | ⟨b',N',f,hv,hB,hN,hr,hf⟩⟩:=h
 ·
  simp at hv
 ·
  simp only [Value.slice.injEq,Option.some.injEq,Addr.mk.injEq] at hv
  obtain ⟨⟨rfl,_,_⟩,rfl,rfl⟩:=hv
  exact ⟨hr.lt,f,hr,hf⟩
theorem us_snoc (gs:List Nat) (x:Nat):us (gs ++ [x]) = us gs ++ [.int .u32 (x:Int)]:=by simp [us]
end Go.Proofs.YtdcgdpbgnijnpaaGreat

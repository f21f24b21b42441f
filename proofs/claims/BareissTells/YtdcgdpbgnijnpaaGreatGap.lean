/- bits.LeadingZeros32, in plain numbers; windows of a row. divideLong of limb: the long division, limb by limb from the top. duplicate of any magnitude, the empty one too. divide of limb, whole; QuoRem and Exact. blend of limb: a multiple less a multiple. topWord and leading of limb: the top words of two numbers. surely of limb: Lehmer's strides by the top words; wordDivisor. apply and some of limb's strides. divisor and Gcd of limb. Gcd and Exact of limb. -/
import Derived.Test.YtdcgdpbgnijnpaaGreatKshr
import Derived.Test.YtdcgdpbgnijnpaaGreatLz
import Derived.Test.YtdcgdpbgnijnpaaGreatGag
import Derived.Test.YtdcgdpbgnijnpaaGreatGab
import Derived.Deep.RegionHeld3
namespace Go.Proofs.YtdcgdpbgnijnpaaGreat
open Go.RowKit
theorem bitLen_bounds:∀ (k x:Nat),k = x→x ≠ 0→x < 2 ^ 64→1≤Lib.bitLen x∧2 ^ (Lib.bitLen x - 1)≤x∧x < 2 ^ Lib.bitLen x:=by
 intro k
 induction k using Nat.strongRecOn with
 | ind k ih =>
  intro x hk h0 h
  rw [Lib.bitLen_half x h0 h]
  by_cases h1:x / 2 = 0
  ·
   have hx:x = 1:=by omega
   subst hx
   decide
  ·
   obtain ⟨a,b,c⟩:=ih (x / 2) (by omega) (x / 2) rfl h1 (by omega)
   refine ⟨by omega,?_,?_⟩
   ·
    rw [show 1 + Lib.bitLen (x / 2) - 1 = (Lib.bitLen (x / 2) - 1) + 1 by omega,Nat.pow_succ]; omega
   ·
    rw [show 1 + Lib.bitLen (x / 2) = Lib.bitLen (x / 2) + 1 by omega,Nat.pow_succ]; omega
theorem lz_any (x:Nat) (w:World) (h0:0 < x) (h1:x < 4294967296) :
  Calls Tryz.prog 145 #[.int .u32 (x:Int)] w fun e w' => w' = w∧∃ s:Nat,e = .returned (.int .i64 (s:Int))∧s≤31∧2147483648≤x * 2 ^ s∧x * 2 ^ s < 4294967296:=by
 refine (lzeros_any (x:Int) w (by omega) (by omega)).mono ?_
 rintro e w' ⟨rfl,rfl⟩
 obtain ⟨a,b,c⟩:=bitLen_bounds x x rfl (by omega) (by omega)
 have d:=Lib.bitLen_le x 32 (by omega) (by omega)
 rw [Int.toNat_natCast]
 generalize Lib.bitLen x = n at *
 refine ⟨rfl,32 - n,by rw [show (32:Int) - (n:Int) = ((32 - n:Nat):Int) by omega],by omega,?_,?_⟩
 ·
  have h2:2 ^ (n - 1) * 2 ^ (32 - n)≤x * 2 ^ (32 - n):=Nat.mul_le_mul_right _ b
  rw [← Nat.pow_add,show n - 1 + (32 - n) = 31 by omega] at h2
  omega
 ·
  have h2:x * 2 ^ (32 - n) < 2 ^ n * 2 ^ (32 - n):=Nat.mul_lt_mul_of_pos_right c (Nat.two_pow_pos _)
  rw [← Nat.pow_add,show n + (32 - n) = 32 by omega] at h2
  omega
theorem Win.sub {w:World} {b N:Nat} {f:Nat→Value} {R:List Nat} (h:Win w b N 0 f R) (i m:Nat) (hi:i + m≤R.length):Win w b N i f ((R.drop i).take m):=by
 have hl:((R.drop i).take m).length = m:=by rw [List.length_take,List.length_drop]; omega
 refine ⟨h.row,fun j hj => ?_,by have:=h.len; omega,(h.bd.drop i).take m⟩
 rw [hl] at hj
 have h9:=h.at_ (i + j) (by omega)
 rw [Nat.zero_add] at h9
 rw [h9,List.getD_eq_getElem?_getD,List.getD_eq_getElem?_getD,List.getElem?_take_of_lt hj,List.getElem?_drop]
theorem Win.join {w w':World} {b N i:Nat} {f f':Nat→Value} {R W:List Nat} (h:Win w b N 0 f R) (h':Win w' b N i f' W) (hf:∀ j,j < i ∨ i + W.length≤j→f' j = f j) (hi:i + W.length≤R.length):Win w' b N 0 f' (R.take i ++ W ++ R.drop (i + W.length)):=by
 have hti:(R.take i).length = i:=by rw [List.length_take]; omega
 have hlen:(R.take i ++ W ++ R.drop (i + W.length)).length = R.length:=by simp only [List.length_append,hti,List.length_drop]; omega
 refine ⟨h'.row,fun j hj => ?_,by have:=h.len; omega,fun x hx => ?_⟩
 ·
  rw [hlen] at hj
  rw [Nat.zero_add,List.append_assoc]
  have hR:=h.at_ j hj
  rw [Nat.zero_add] at hR
  simp only [List.getD_eq_getElem?_getD] at hR ⊢
  by_cases h1:j < i
  ·
   rw [hf j (.inl h1),hR,List.getElem?_append_left (by omega),List.getElem?_take_of_lt h1]
  ·
   by_cases h2:j < i + W.length
   ·
    have h9:=h'.at_ (j - i) (by omega)
    rw [show i + (j - i) = j by omega] at h9
    rw [h9,List.getD_eq_getElem?_getD,List.getElem?_append_right (by omega),hti,List.getElem?_append_left (by omega)]
   ·
    rw [hf j (.inr (by omega)),hR,List.getElem?_append_right (by omega),hti,List.getElem?_append_right (by omega),List.getElem?_drop,show i + W.length + (j - i - W.length) = j by omega]
 ·
  rcases List.mem_append.1 hx with h1 | h1
  ·
   rcases List.mem_append.1 h1 with h2 | h2
   ·
    exact h.bd x (List.mem_of_mem_take h2)
   ·
    exact h'.bd x h2
  ·
   exact h.bd x (List.mem_of_mem_drop h1)
theorem New.win {B b n c:Nat} {w:World} {l:List Nat} (h:New B w (.slice (some ⟨b,0,none⟩) n c) l):n = l.length∧B≤b∧l.length≤c∧∃ f,Win w b c 0 f l:=by
 obtain ⟨hb,⟨hv,rfl⟩ | ⟨b',N',f,hv,hB,hN,hr,hf⟩⟩:=h
 ·
  simp at hv
 ·
  simp only [Value.slice.injEq,Option.some.injEq,Addr.mk.injEq] at hv
  obtain ⟨⟨rfl,_,_⟩,rfl,rfl⟩:=hv
  exact ⟨rfl,hB,hN,f,hr,fun j hj => by rw [Nat.zero_add]; exact hf j hj,by omega,hb⟩
theorem Win.new {B w b c} {f:Nat→Value} {l:List Nat} (h:Win w b c 0 f l) (hB:B≤b):New B w (.slice (some ⟨b,0,none⟩) l.length c) l :=
 ⟨h.bd,.inr ⟨b,c,f,rfl,hB,by have:=h.len; omega,h.row,fun j hj => by have:=h.at_ j hj; rwa [Nat.zero_add] at this⟩⟩
theorem Win.grown {w w':World} {b b' N i:Nat} {f:Nat→Value} {q:List Nat} (h:Win w b N i f q) (hg:w.grownBy w' (some b')) (hne:b ≠ b'):Win w' b N i f q :=
 ⟨h.row.of_block (hg.block b h.row.lt (fun e => hne (Option.some.inj e))),h.at_,h.len,h.bd⟩
theorem lt_pow_top {d:List Nat} {n:Nat} (hb:M.Bd d) (hl:d.length = n + 1) (h:2147483648 * 4294967296 ^ n≤M.val d):2147483648≤d.getD n 0:=by
 rw [M.take_drop_val d n (by omega),M.drop_getD d n (by omega),List.drop_of_length_le (by omega)] at h
 have h1:=M.val_lt (hb.take n)
 rw [List.length_take,Nat.min_eq_left (by omega)] at h1
 simp only [M.val,Nat.mul_zero,Nat.add_zero] at h
 apply Classical.byContradiction
 intro hn
 have h2:4294967296 ^ n * (d.getD n 0 + 1)≤4294967296 ^ n * 2147483648:=Nat.mul_le_mul_left _ (by omega)
 rw [Nat.mul_add] at h2
 omega
theorem shifted_divisor {b p:List Nat} {n s x S:Nat} (hS:S = 2 ^ s) (hs:s≤31) (hb:M.Bd b) (hbl:b.length = n + 1) (hx:x = b.getD n 0) (hpb:M.Bd p) (hpl:p.length = n + 2) (hv:M.val p = M.val b * S) (h1:2147483648≤x * S) (h2:x * S < 4294967296) :
  M.val (p.take (n + 1)) = M.val b * S∧(p.take (n + 1)).length = n + 1∧2147483648≤(p.take (n + 1)).getD n 0:=by
 have e:=M.take_drop_val b n (by omega)
 rw [M.drop_getD b n (by omega),List.drop_of_length_le (by omega),← hx] at e
 simp only [M.val,Nat.mul_zero,Nat.add_zero] at e
 have hlow:=M.val_lt (hb.take n)
 rw [List.length_take,Nat.min_eq_left (by omega)] at hlow
 obtain ⟨T,hT⟩:∃ T,4294967296 = T * S:=⟨2 ^ (32 - s),by rw [hS,← Nat.pow_add,show 32 - s + s = 32 by omega]⟩
 have hS0:0 < S:=by rw [hS]; exact Nat.two_pow_pos s
 have hxT:(x + 1) * S≤4294967296:=by
  rw [hT] at h2 ⊢
  exact Nat.mul_le_mul_right _ (Nat.lt_of_mul_lt_mul_right h2)
 have hub:M.val b * S < 4294967296 ^ (n + 1):=by
  have h3:M.val b < 4294967296 ^ n * (x + 1):=by rw [Nat.mul_add]; omega
  have h4:M.val b * S < 4294967296 ^ n * (x + 1) * S:=Nat.mul_lt_mul_of_pos_right h3 hS0
  have h5:4294967296 ^ n * ((x + 1) * S)≤4294967296 ^ n * 4294967296:=Nat.mul_le_mul_left _ hxT
  rw [Nat.mul_assoc] at h4
  rw [Nat.pow_succ]
  omega
 have hlo:2147483648 * 4294967296 ^ n≤M.val b * S:=by
  have h3:4294967296 ^ n * x * S≤M.val b * S:=Nat.mul_le_mul_right _ (by omega)
  have h4:4294967296 ^ n * 2147483648≤4294967296 ^ n * (x * S):=Nat.mul_le_mul_left _ h1
  rw [Nat.mul_assoc] at h3
  omega
 have ep:=M.take_drop_val p (n + 1) (by omega)
 have hz:M.val (p.drop (n + 1)) = 0:=by
  apply Classical.byContradiction
  intro hn
  have h3:4294967296 ^ (n + 1) * 1≤4294967296 ^ (n + 1) * M.val (p.drop (n + 1)):=Nat.mul_le_mul_left _ (by omega)
  omega
 rw [hz,Nat.mul_zero,Nat.add_zero] at ep
 have hl:(p.take (n + 1)).length = n + 1:=by rw [List.length_take]; omega
 have hval:M.val (p.take (n + 1)) = M.val b * S:=by rw [← ep,hv]
 exact ⟨hval,hl,lt_pow_top (hpb.take _) hl (by rw [hval]; exact hlo)⟩
theorem shifted_number {a r d:List Nat} {m n s S:Nat} (hS:S = 2 ^ s) (hs:s≤31) (ha:M.Bd a) (hal:a.length = m) (hrb:M.Bd r) (hrl:r.length = m + 1) (hv:M.val r = M.val a * S) (hdl:d.length = n + 1) (hnm:n + 1≤m) (htop:2147483648≤d.getD n 0):M.val (r.drop (m - n)) < M.val d:=by
 have hS0:0 < S:=by rw [hS]; exact Nat.two_pow_pos s
 have hS1:S≤2147483648:=by rw [hS]; exact Nat.le_trans (Nat.pow_le_pow_right (by decide) hs) (by decide)
 have h1:=M.val_lt ha
 rw [hal] at h1
 have h2:M.val a * S < 4294967296 ^ m * S:=Nat.mul_lt_mul_of_pos_right h1 hS0
 have e:=M.take_drop_val r m (by omega)
 rw [M.drop_getD r m (by omega),List.drop_of_length_le (by omega)] at e
 simp only [M.val,Nat.mul_zero,Nat.add_zero] at e
 have ht:r.getD m 0 < 2147483648:=by
  apply Classical.byContradiction
  intro hn
  have h3:4294967296 ^ m * S≤4294967296 ^ m * r.getD m 0:=Nat.mul_le_mul_left _ (by omega)
  omega
 refine lt_of_top (n:=n) (hrb.drop _) (by rw [List.length_drop]; omega) hdl ?_
 have e2:(r.drop (m - n)).getD n 0 = r.getD m 0:=by
  rw [List.getD_eq_getElem?_getD,List.getElem?_drop,show m - n + n = m by omega,← List.getD_eq_getElem?_getD]
 omega
end Go.Proofs.YtdcgdpbgnijnpaaGreat

namespace Go.Proofs.YtdcgdpbgnijnpaaGreat
open Go.RowKit
theorem make_diff (m n L:Nat) (h:m = n + L) (hL:L≤1000000) (w:World) :
  (Instr.makeSlice 35 (.int .i64 ((m:Int) - (n:Int))) (.int .i64 ((m:Int) - (n:Int)))).run Tryz.prog w = .ok (.slice (some ⟨w.heap.size,0,none⟩) L L) (w.alloc (.cells (madeCells #[.int .u32 0] L) 40)):=by
 have e:(m:Int) - (n:Int) = (L:Int):=by omega
 rw [e]
 exact make_limbs L hL w
theorem row_zeros (w:World) (n:Nat):(w.alloc (.cells (madeCells #[.int .u32 0] n) 40)).rowIs w.heap.size 40 n (fun j => .int .u32 (((List.replicate n 0).getD j 0:Nat):Int)) :=
 (row_made w n).congr (fun j _ => by
  rw [List.getD_eq_getElem?_getD,List.getD_eq_getElem?_getD,List.getElem?_replicate]
  split <;> simp)
set_option maxRecDepth 100000 in
set_option maxHeartbeats 4000000 in
theorem divideLong_any (aoa aob:Option Addr) (capa capb:Nat) (a b:List Nat) (w:World) (ha:Sl w (.slice aoa a.length capa) a) (hb:Sl w (.slice aob b.length capb) b) (hla:a.length≤900) (hab:b.length≤a.length) (hb2:2≤b.length) (tb:M.Tr b) :
  Calls Tryz.prog 138 #[.slice aoa a.length capa,.slice aob b.length capb] w fun e w' => Kept w w'∧DivIs w.heap.size w' e a b:=by
 have HA:Hid (Sl w (.slice aoa a.length capa) a):=ha
 have HB:Hid (Sl w (.slice aob b.length capb) b):=hb
 have bda:=ha.bd
 have bdb:=hb.bd
 obtain ⟨bb,ob,rfl,hckb,htop0⟩:∃ bb ob,aob = some ⟨bb,ob,none⟩∧w.cell? ⟨bb,ob + (b.length - 1),none⟩ = some (.int .u32 ((b.getD (b.length - 1) 0:Nat):Int))∧0 < b.getD (b.length - 1) 0:=by
  obtain ⟨_,ao',cap',he,hx⟩:=hb
  simp only [Value.slice.injEq] at he
  obtain ⟨rfl,_,rfl⟩:=he
  obtain ⟨_,b',off,rfl,_,hc⟩:=hx (by omega)
  refine ⟨b',off,rfl,hc (b.length - 1) (by omega),?_⟩
  rcases tb with h | h <;> omega
 have htop1:=bdb.getD (b.length - 1)
 obtain ⟨x,hx⟩:∃ x,x = b.getD (b.length - 1) 0:=⟨_,rfl⟩
 rw [← hx] at hckb htop0 htop1
 have HX:Hid (x = b.getD (b.length - 1) 0):=hx
 obtain ⟨la,hla'⟩:∃ la,la = a.length:=⟨_,rfl⟩
 obtain ⟨lb,hlb'⟩:∃ lb,lb = b.length:=⟨_,rfl⟩
 rw [← hlb'] at hckb hab hb2
 rw [← hla'] at hla hab
 rw [← hla',← hlb']
 have HL:Hid (la = a.length∧lb = b.length):=⟨hla',hlb'⟩
 clear hx hla' hlb' ha hb tb
 have hb1:1≤lb:=by omega
 go_enter Tryz.func138,Tryz.ntmps138
 go_wp2_with fail
 refine (lz_any x _ htop0 htop1).mono ?_
 rintro e w0 ⟨rfl,s,rfl,hs,hs1,hs2⟩
 have HSX:Hid (2147483648≤x * 2 ^ s∧x * 2 ^ s < 4294967296):=⟨hs1,hs2⟩
 clear hs1 hs2 hckb htop0 htop1
 obtain ⟨S,hS⟩:∃ S,S = 2 ^ s:=⟨_,rfl⟩
 have HSS:Hid (S = 2 ^ s):=hS
 clear hS
 -- the divisor
 go_wp2_with fail
 have hc1:=shiftLeft_any (some ⟨bb,ob,none⟩) capb b s w0 HB.out (by have:=HL.out; omega) hs
 rw [← HL.out.2,← HSS.out] at hc1
 refine hc1.mono ?_
 rintro e w1 ⟨hk1,b1,N1,p,rfl,hn1,hl1,hv1⟩
 clear hc1
 obtain ⟨_,hB1,hN1,f1,hw1⟩:=hn1.win
 obtain ⟨n,rfl⟩:∃ n,lb = n + 1:=⟨lb - 1,by omega⟩
 obtain ⟨hd1,hd2,hd3⟩:=shifted_divisor (x:=x) HSS.out hs bdb HL.out.2.symm (by have:=HX.out; rw [← HL.out.2] at this; exact this) hw1.bd hl1 hv1 (by rw [HSS.out]; exact HSX.out.1) (by rw [HSS.out]; exact HSX.out.2)
 obtain ⟨d,hd⟩:∃ d,d = p.take (n + 1):=⟨_,rfl⟩
 rw [← hd] at hd1 hd2 hd3
 have HD:Hid (Sl w1 (.slice (some ⟨b1,0,none⟩) (n + 1) N1) d∧M.val d = M.val b * S∧d.length = n + 1∧2147483648≤d.getD n 0):=by
  refine ⟨?_,hd1,hd2,hd3⟩
  have h9:=(hw1.sub 0 (n + 1) (by omega)).sl (cap:=N1) (by rw [List.length_take,List.length_drop]; omega)
  rw [List.drop_zero,← hd,hd2] at h9
  exact h9
 have HK1:Hid (Kept w0 w1∧w0.heap.size≤b1∧b1 < w1.heap.size):=⟨hk1,hB1,hw1.row.lt⟩
 have hN1':n + 1 + 1≤N1:=by omega
 clear hk1 hn1 hl1 hv1 hB1 hN1 hw1 hd1 hd2 hd3 hd
 -- the number
 go_wp2_with fail
 have hc2:=shiftLeft_any aoa capa a s w1 (HA.out.kept HK1.out.1) (by have:=HL.out; omega) hs
 rw [← HL.out.1,← HSS.out] at hc2
 refine hc2.mono ?_
 rintro e w2 ⟨hk2,b2,N2,r,rfl,hn2,hl2,hv2⟩
 clear hc2
 obtain ⟨_,hB2,hN2,f2,hw2⟩:=hn2.win
 have hlt2:=shifted_number HSS.out hs bda HL.out.1.symm hw2.bd hl2 hv2 HD.out.2.2.1 hab HD.out.2.2.2
 obtain ⟨rl,hrl⟩:∃ rl,rl = la + 1:=⟨_,rfl⟩
 obtain ⟨L,hL⟩:∃ L,L = la - n:=⟨_,rfl⟩
 rw [← hL] at hlt2
 rw [← hrl] at hl2 ⊢
 have HR:Hid (r.length = rl∧M.val r = M.val a * S∧M.val (r.drop L) < M.val d∧∃ f,Win w2 b2 N2 0 f r):=⟨hl2,hv2,hlt2,f2,hw2⟩
 have HK2:Hid (Kept w0 w2∧Kept w1 w2∧w1.heap.size≤b2∧b2 < w2.heap.size):=⟨HK1.out.1.trans hk2,hk2,hB2,hw2.row.lt⟩
 have hN2':rl≤N2:=by omega
 have HLL:Hid (L = la - n∧rl = la + 1∧n + 1≤la):=⟨hL,hrl,hab⟩
 have hL1:1≤L:=by omega
 have hL2:L≤900:=by omega
 have hmk:=make_diff rl (n + 1) L (by omega) (by omega)
 simp only [show ((n + 1:Nat):Int) = (n:Int) + 1 by omega] at hmk
 have hrl2:rl≤901:=by omega
 have hrn:n + 1≤rl:=by omega
 clear hk2 hn2 hl2 hv2 hB2 hN2 hw2 hrl hL hab hla hlt2
 go_wp2
 have hrow0:=row_zeros w2 L
 obtain ⟨b3,hb3⟩:∃ b3,b3 = w2.heap.size:=⟨_,rfl⟩
 rw [← hb3] at hrow0 ⊢
 obtain ⟨w3,hw3⟩:∃ w3,w3 = w2.alloc (.cells (madeCells #[.int .u32 0] L) 40):=⟨_,rfl⟩
 rw [← hw3] at hrow0 ⊢
 have hk3:Kept w2 w3:=by rw [hw3]; exact (Kept.refl w2).alloc _
 have HB3:Hid (b1 < b2∧b2 < b3∧w0.heap.size≤b1):=by
  have h1:=HK1.out
  have h2:=HK2.out
  rw [hb3]
  exact ⟨by omega,by omega,by omega⟩
 have hH0:∃ g,Win w3 b2 N2 0 g r:=by
  obtain ⟨f,hf⟩:=HR.out.2.2.2
  exact ⟨f,hf.kept hk3⟩
 have HS0:Hid ((∃ g,Win w3 b2 N2 0 g r)∧w3.rowIs b3 40 L (fun j => .int .u32 (((List.replicate L 0).getD j 0:Nat):Int))∧Sl w3 (.slice (some ⟨b1,0,none⟩) (n + 1) N1) d∧Kept w0 w3) :=
  ⟨hH0,hrow0,(HD.out.1.kept HK2.out.2.1).kept hk3,HK2.out.1.trans hk3⟩
 clear hrow0 hb3 hw3 hk3 hH0 hmk
 go_loopw [10] (fun vi wr => ∃ (k:Nat) (o R:List Nat),k≤L∧vi = .int .i64 ((k:Int) - 1)∧Hid (R.length = rl∧o.length = L∧M.Bd o∧M.val (R.drop k) < M.val d∧M.val a * S = M.val (o.drop k) * 4294967296 ^ k * M.val d + M.val R) ∧
   Hid (∃ g,Win wr b2 N2 0 g R)∧Hid (wr.rowIs b3 40 L (fun j => .int .u32 ((o.getD j 0:Nat):Int)))∧Hid (Sl wr (.slice (some ⟨b1,0,none⟩) (n + 1) N1) d)∧Hid (Kept w0 wr)) (fun vi _ => (intOf vi + 1).toNat)
 case atStart =>
  refine ⟨L,List.replicate L 0,r,Nat.le_refl _,rfl,⟨HR.out.1,List.length_replicate,Bd_replicate L,HR.out.2.2.1,?_⟩,HS0.out.1,HS0.out.2.1,HS0.out.2.2.1,HS0.out.2.2.2⟩
  rw [List.drop_of_length_le (by rw [List.length_replicate]; exact Nat.le_refl _),HR.out.2.1]
  simp [M.val]
 case round =>
  obtain ⟨k,o,R,hk,rfl,ho,hwin,hrow,hby,hkept⟩:=hrel
  by_cases h0:k = 0
  ·
   subst h0
   obtain ⟨g,hg⟩:=hwin.out
   obtain ⟨hR1,hR2,hR3,hR4,hR5⟩:=ho.out
   rw [List.drop_zero] at hR4
   rw [List.drop_zero,Nat.pow_zero,Nat.mul_one] at hR5
   have hS0:0 < S:=by rw [HSS.out]; exact Nat.two_pow_pos s
   have hend:=div_end (A:=M.val a) (B:=M.val b) HD.out.2.1 hS0 hR5 hR4
   have hcall:=shiftRight_any b2 N2 N2 g R s wr hg (by omega) (by omega) hs
   rw [hR1,← HSS.out] at hcall
   have HC:Hid (Calls Tryz.prog 148 #[.slice (some ⟨b2,0,none⟩) rl N2,.int .i64 (s:Int)] wr fun e w' => wr.grownBy w' (some b2)∧e = .returned (.tuple #[])∧∃ f' q',Win w' b2 N2 0 f' q'∧q'.length = rl∧M.val q' = M.val R / S):=hcall
   have HE:Hid (M.val a = M.val o * M.val b + M.val R / S∧M.val R / S < M.val b∧o.length = L∧M.Bd o):=⟨hend.1,hend.2,hR2,hR3⟩
   clear hg hR1 hR2 hR3 hR4 hR5 hS0 hend hcall hN1' hb2 hb1
   go_wp2_with fail
   refine HC.out.mono ?_
   rintro e w4 ⟨hgr4,rfl,f4,R',hw4,hl4,hv4⟩
   have hb3':=HB3.out
   have hnq:New w0.heap.size w4 (.slice (some ⟨b3,0,none⟩) L L) o:=New.of_row (hrow.out.of_block (hgr4.block b3 hrow.out.lt (fun e => by have:=Option.some.inj e; omega))) HE.out.2.2.2 HE.out.2.2.1.symm (Nat.le_refl _) (by omega)
   have hnr:New w0.heap.size w4 (.slice (some ⟨b2,0,none⟩) rl N2) R':=by have h9:=hw4.new (B:=w0.heap.size) (by omega); rwa [hl4] at h9
   have H4:Hid (Kept w0 w4∧New w0.heap.size w4 (.slice (some ⟨b3,0,none⟩) L L) o∧New w0.heap.size w4 (.slice (some ⟨b2,0,none⟩) rl N2) R'∧R'.length = rl∧M.val R' = M.val R / S) :=
    ⟨Below.grown hkept.out hgr4 hkept.out.size (fun k hk => by cases hk; omega),hnq,hnr,hl4,hv4⟩
   clear hgr4 hw4 hl4 hv4 hnq hnr hb3' HC
   go_wp2_with fail
   refine (trim_new _ H4.out.2.1 (by rw [HE.out.2.2.1]; omega)).mono ?_
   rintro e w5 ⟨rfl,vq,q',rfl,hq1,hq2,hq3,hq4⟩
   have HQ:Hid (New w0.heap.size w5 vq q'∧M.Tr q'∧M.val q' = M.val o∧q'.length≤o.length):=⟨hq1,hq2,hq3,hq4⟩
   clear hq1 hq2 hq3 hq4
   go_wp2_with fail
   refine (trim_new _ H4.out.2.2.1 (by rw [H4.out.2.2.2.1]; omega)).mono ?_
   rintro e w6 ⟨rfl,vr,r',rfl,hr1,hr2,hr3,hr4⟩
   have HRR:Hid (New w0.heap.size w6 vr r'∧M.Tr r'∧M.val r' = M.val R'):=⟨hr1,hr2,hr3⟩
   clear hr1 hr2 hr3 hr4
   go_wp2
   go_ret2
   have hE:=HE.out
   refine ⟨H4.out.1,vq,q',vr,r',rfl,HQ.out.1,HRR.out.1,HQ.out.2.1,HRR.out.2.1,?_,?_,?_⟩
   ·
    have h1:=HQ.out.2.2.2
    have h2:=HLL.out
    have h3:=HL.out
    omega
   ·
    rw [HQ.out.2.2.1,HRR.out.2.2,H4.out.2.2.2.2]; exact hE.1
   ·
    rw [HRR.out.2.2,H4.out.2.2.2.2]; exact hE.2.1
  ·
   obtain ⟨i,rfl⟩:∃ i,k = i + 1:=⟨k - 1,by omega⟩
   have hi:i < L:=by omega
   have e1:((i + 1:Nat):Int) - 1 = (i:Int):=by omega
   rw [e1]
   have hin:i + (n + 1) + 1≤rl:=by have:=HLL.out; omega
   have hii:(i:Int) + ((n:Int) + 1) + 1≤(N2:Int):=by omega
   obtain ⟨g,hg⟩:=hwin.out
   have hWw:=hg.sub i (n + 1 + 1) (by rw [ho.out.1]; omega)
   obtain ⟨W,hW⟩:∃ W,W = (R.drop i).take (n + 1 + 1):=⟨_,rfl⟩
   rw [← hW] at hWw
   have hWl:W.length = n + 1 + 1:=by rw [hW,List.length_take,List.length_drop,ho.out.1]; omega
   have hDlt:M.val d < 4294967296 ^ (n + 1):=by have:=M.val_lt hby.out.bd; rwa [HD.out.2.2.1] at this
   have hwin3:=div_window (i:=i) (n:=n + 1) hg.bd (by rw [ho.out.1]; omega) hDlt ho.out.2.2.2.1
   have hdl:=HD.out.2.2.1
   have hby':=hby.out
   rw [← hdl] at hby'
   have hcall:=takeLimb_any b2 N2 i (N2 - i) g W d b1 0 N1 wr hWw hby' (by have:=HB3.out; omega) (by omega) (by omega) (by omega) (by omega) (by rw [hdl]; exact HD.out.2.2.2) (by rw [hW]; exact hwin3.2.2)
   rw [hWl,hdl] at hcall
   have HC:Hid (Calls Tryz.prog 147 #[.slice (some ⟨b2,i,none⟩) (n + 1 + 1) (N2 - i),.slice (some ⟨b1,0,none⟩) (n + 1) N1] wr fun e w' => wr.grownBy w' (some b2)∧∃ f' q',e = .returned (.int .u32 ((M.val W / M.val d:Nat):Int))∧Win w' b2 N2 i f' q'∧q'.length = n + 1 + 1∧(∀ j,j < i ∨ i + (n + 1 + 1)≤j→f' j = g j)∧M.val q' = M.val W % M.val d):=hcall
   have HG:Hid (Win wr b2 N2 0 g R∧W = (R.drop i).take (n + 1 + 1)):=⟨hg,hW⟩
   have HWQ:Hid (M.val W / M.val d < 4294967296):=by
    show _ < _
    rw [Nat.div_lt_iff_lt_mul (by omega),hW]; exact hwin3.2.2
   have HDL:Hid (M.val d < 4294967296 ^ (n + 1)):=hDlt
   clear hWw hWl hDlt hwin3 hdl hby' hcall hg hW e1 h0
   go_wp2_with fail
   rw [show i + (n + 1) + 1 - i = n + 1 + 1 by omega]
   refine HC.out.mono ?_
   rintro e w4 ⟨hgr4,f4,W',rfl,hw4,hl4,hf4,hv4⟩
   clear HC
   have H4:Hid (wr.grownBy w4 (some b2)∧Win w4 b2 N2 i f4 W'∧W'.length = n + 1 + 1∧(∀ j,j < i ∨ i + (n + 1 + 1)≤j→f4 j = g j)∧M.val W' = M.val W % M.val d):=⟨hgr4,hw4,hl4,hf4,hv4⟩
   have hrow4:w4.rowIs b3 40 L (fun j => .int .u32 ((o.getD j 0:Nat):Int)):=hrow.out.of_block (hgr4.block b3 hrow.out.lt (fun e => by have:=HB3.out; have:=Option.some.inj e; omega))
   have hfz:w4.frozen? ⟨b3,i,none⟩ = false:=hrow4.frozen _
   have hcz:w4.cell? ⟨b3,i,none⟩ = some (.int .u32 ((o.getD i 0:Nat):Int)):=hrow4.cell hi
   have HROW4:Hid (w4.rowIs b3 40 L (fun j => .int .u32 ((o.getD j 0:Nat):Int))):=hrow4
   obtain ⟨z,hz⟩:∃ z:Int,z = ((o.getD i 0:Nat):Int):=⟨_,rfl⟩
   rw [← hz] at hcz
   obtain ⟨qd,hqd⟩:∃ qd,qd = M.val W / M.val d:=⟨_,rfl⟩
   have HQD:Hid (qd = M.val W / M.val d∧qd < 4294967296):=⟨hqd,by rw [hqd]; exact HWQ.out⟩
   rw [← hqd]
   clear hgr4 hw4 hl4 hf4 hv4 hrow4 hz hqd
   go_wp2
   go_roundw
   case rel =>
    obtain ⟨hgr4,hw4,hl4,hf4,hv4⟩:=H4.out
    have hR:=ho.out
    have hol:i < o.length:=by rw [hR.2.1]; exact hi
    have hgrs:w4.grownBy (w4.setCell ⟨b3,i,none⟩ (.int .u32 (qd:Int))) (some b3):=grown_set (World.grownBy.refl _ _) i _
    have hjoin:=HG.out.1.join hw4 (by rw [hl4]; exact hf4) (by rw [hl4,hR.1]; omega)
    rw [hl4] at hjoin
    have hround:=div_round (n:=n + 1) (qd:=qd) (W':=W') HG.out.1.bd (by rw [hR.1]; omega) hl4 hol HDL.out hR.2.2.2.1 hR.2.2.2.2 (by rw [HQD.out.1,HG.out.2]) (by rw [hv4,HG.out.2])
    have hb3':=HB3.out
    have hne:∀ k,some b2 = some k→w0.heap.size≤k:=fun k hk => by cases hk; omega
    refine ⟨i,o.set i qd,_,by omega,by go_num,⟨by rw [hround.1]; exact hR.1,by rw [List.length_set]; exact hR.2.1,Bd_set hR.2.2.1 _ _ HQD.out.2,hround.2.1,hround.2.2⟩,⟨_,hjoin.grown hgrs (by omega)⟩,row_set HROW4.out i hol qd _ rfl,sl_grown (sl_grown hby.out hgr4 (by omega)) hgrs (by omega),?_⟩
    exact (Below.grown hkept.out hgr4 hkept.out.size hne).setCell (by show w0.heap.size≤b3; omega) _
   case measure => simp [intOf]
end Go.Proofs.YtdcgdpbgnijnpaaGreat

namespace Go.Proofs.YtdcgdpbgnijnpaaGreat
open Go.RowKit
set_option maxHeartbeats 1000000 in
theorem dup_nil (cap:Nat) (w:World) :
  Calls Tryz.prog 136 #[.slice none 0 cap] w fun e w' => w' = w∧e = .returned (.slice none 0 0):=by
 go_enter Tryz.func136,Tryz.ntmps136
 go_wp2
 go_ret
 exact ⟨rfl,rfl⟩
set_option maxHeartbeats 1000000 in
theorem dup_emp (ad:Addr) (cap:Nat) (w:World) :
  Calls Tryz.prog 136 #[.slice (some ad) 0 cap] w fun e w' => w' = w∧e = .returned (.slice none 0 0):=by
 go_enter Tryz.func136,Tryz.ntmps136
 go_wp2
 go_ret
 exact ⟨rfl,rfl⟩
theorem dup_any {v:Value} {l:List Nat} (w:World) (h:Sl w v l) (hl:l.length≤1000000) :
  Calls Tryz.prog 136 #[v] w fun e w' => Kept w w'∧∃ v',e = .returned v'∧New w.heap.size w' v' l:=by
 by_cases h0:0 < l.length
 ·
  exact dup_some w h h0 hl
 ·
  have h1:l = []:=List.length_eq_zero_iff.1 (by omega)
  subst h1
  obtain ⟨_,ao,cap,rfl,_⟩:=h
  cases ao with
  | none =>
   refine (dup_nil cap w).mono ?_
   rintro e w' ⟨rfl,rfl⟩
   exact ⟨Kept.refl _,_,rfl,New.nil _ _⟩
  | some ad =>
   refine (dup_emp ad cap w).mono ?_
   rintro e w' ⟨rfl,rfl⟩
   exact ⟨Kept.refl _,_,rfl,New.nil _ _⟩
end Go.Proofs.YtdcgdpbgnijnpaaGreat

namespace Go.Proofs.YtdcgdpbgnijnpaaGreat
open Go.RowKit
set_option maxHeartbeats 1000000 in
theorem divide_less (va vb:Value) (a b:List Nat) (w:World) (ha:Sl w va a) (hb:Sl w vb b) (hla:a.length≤900) (hlb:b.length≤900) (ta:M.Tr a) (tb:M.Tr b) (hlt:M.val a < M.val b) :
  Calls Tryz.prog 123 #[va,vb] w fun e w' => Kept w w'∧DivIs w.heap.size w' e a b:=by
 have HT:Hid (M.Tr a∧M.Tr b∧M.val a < M.val b):=⟨ta,tb,hlt⟩
 have HA:Hid (Sl w va a):=ha
 have HB:Hid (Sl w vb b):=hb
 clear ta tb hlt ha hb
 go_enter Tryz.func123,Tryz.ntmps123
 go_wp2_with fail
 refine (compare_any _ _ a b _ HA.out HB.out (by omega) (by omega) HT.out.1 HT.out.2.1).mono ?_
 rintro e w0 ⟨rfl,nq,rfl⟩
 rw [sgn,if_pos HT.out.2.2]
 go_wp2_with fail
 refine (dup_any _ (HA.out.kept ((Kept.refl w).drewN nq)) (by omega)).mono ?_
 rintro e w1 ⟨hk1,v1,rfl,hn1⟩
 have HK1:Hid (Kept w w1∧New w.heap.size w1 v1 a):=⟨((Kept.refl w).drewN nq).trans hk1,hn1⟩
 clear hk1 hn1
 go_wp2
 go_ret2
 exact ⟨HK1.out.1,_,[],v1,a,rfl,New.nil _ _,HK1.out.2,.inl rfl,HT.out.1,by simp,by simp [M.val],HT.out.2.2⟩
set_option maxHeartbeats 1000000 in
theorem divide_long (va vb:Value) (a b:List Nat) (w:World) (ha:Sl w va a) (hb:Sl w vb b) (hla:a.length≤900) (hlb:b.length≤900) (ta:M.Tr a) (tb:M.Tr b) (hle:M.val b≤M.val a) (hb2:2≤b.length) :
  Calls Tryz.prog 123 #[va,vb] w fun e w' => Kept w w'∧DivIs w.heap.size w' e a b:=by
 have HT:Hid (M.Tr a∧M.Tr b∧M.val b≤M.val a):=⟨ta,tb,hle⟩
 have HLL:Hid (b.length≤a.length):=M.len_le_of_val_le tb ha.bd hle
 have HA:Hid (Sl w va a):=ha
 have HB:Hid (Sl w vb b):=hb
 obtain ⟨_,aoa,capa,rfl,_⟩:=ha
 obtain ⟨_,aob,capb,rfl,_⟩:=hb
 clear ta tb hle
 go_enter Tryz.func123,Tryz.ntmps123
 go_wp2_with fail
 refine (compare_any _ _ a b _ HA.out HB.out (by omega) (by omega) HT.out.1 HT.out.2.1).mono ?_
 rintro e w0 ⟨rfl,nq,rfl⟩
 have hs:0≤sgn (M.val a) (M.val b):=by unfold sgn; have:=HT.out.2.2; split; omega; split <;> omega
 generalize sgn (M.val a) (M.val b) = sg at *
 have hb1:((b.length:Int) == 1) = false:=by simp; omega
 go_wp2_with fail
 refine (divideLong_any aoa aob capa capb a b _ (HA.out.kept ((Kept.refl w).drewN nq)) (HB.out.kept ((Kept.refl w).drewN nq)) hla HLL.out hb2 HT.out.2.1).mono ?_
 rintro e w1 ⟨hk1,vq,q,vr,r,rfl,hd⟩
 have HK1:Hid (Kept w w1):=((Kept.refl w).drewN nq).trans hk1
 have HD:Hid (New w.heap.size w1 vq q∧New w.heap.size w1 vr r∧M.Tr q∧M.Tr r∧q.length≤a.length∧M.val a = M.val q * M.val b + M.val r∧M.val r < M.val b):=hd
 clear hk1 hd
 go_wp2
 go_ret2
 exact ⟨HK1.out,vq,q,vr,r,rfl,HD.out⟩
theorem divide_any (va vb:Value) (a b:List Nat) (w:World) (ha:Sl w va a) (hb:Sl w vb b) (hla:a.length≤900) (hlb:b.length≤900) (ta:M.Tr a) (tb:M.Tr b) (hb0:0 < b.length) :
  Calls Tryz.prog 123 #[va,vb] w fun e w' => Kept w w'∧DivIs w.heap.size w' e a b:=by
 by_cases h1:M.val a < M.val b
 ·
  exact divide_less va vb a b w ha hb hla hlb ta tb h1
 ·
  by_cases h2:b.length = 1
  ·
   exact divide_small va vb a b w ha hb (by omega) ta tb h2 (by omega)
  ·
   exact divide_long va vb a b w ha hb hla hlb ta tb (by omega) (by omega)
theorem quoRem_any (m n:Bool) (va vb:Value) (a b:List Nat) (w:World) (ha:Sl w va a) (hb:Sl w vb b) (hra:R m a) (hrb:R n b) (hb0:0 < b.length) :
  Calls Tryz.prog 113 #[.agg #[.bool m,va],.agg #[.bool n,vb]] w fun e w' => Kept w w'∧QuoIs w.heap.size w' e m n a b :=
 quoRem_of m n va vb a b w ha hb hra hrb hb0 (fun W hk => divide_any va vb a b W (ha.kept hk) (hb.kept hk) (by have:=hra.1; omega) (by have:=hrb.1; omega) (R.tr hra) (R.tr hrb) hb0)
end Go.Proofs.YtdcgdpbgnijnpaaGreat

namespace Go.Proofs.YtdcgdpbgnijnpaaGreat
open Go.RowKit
end Go.Proofs.YtdcgdpbgnijnpaaGreat

namespace Go.Proofs.YtdcgdpbgnijnpaaGreat
open Go.RowKit
def topW (m:List Nat) (n s:Nat):Nat:=(m.getD (n - 1) 0 * 4294967296 + m.getD (n - 2) 0) * 2 ^ s + m.getD (n - 3) 0 / 2 ^ (32 - s)
end Go.Proofs.YtdcgdpbgnijnpaaGreat

namespace Go.Proofs.YtdcgdpbgnijnpaaGreat
open Go.RowKit
def SureIs (A B:Nat) (e:Ending):Prop:=∃ (a b x0 y0 x1 y1 x2 y2:Nat) (t:Bool),e = .returned (.agg #[.int .u64 (x0:Int),.int .u64 (y0:Int),.int .u64 (x1:Int),.int .u64 (y1:Int),.bool t])∧Leh.St A B a b x0 y0 x1 y1 x2 y2 t
end Go.Proofs.YtdcgdpbgnijnpaaGreat

namespace Go.Proofs.YtdcgdpbgnijnpaaGreat
open Go.RowKit
def AppIs (B:Nat) (w':World) (e:Ending) (N0 N1 n:Nat):Prop :=
 ∃ v0 l0 v1 l1,e = .returned (.tuple #[v0,v1])∧New B w' v0 l0∧New B w' v1 l1∧M.Tr l0∧M.Tr l1∧M.val l0 = N0∧M.val l1 = N1∧l0.length≤n∧l1.length≤n
end Go.Proofs.YtdcgdpbgnijnpaaGreat

namespace Go.Proofs.YtdcgdpbgnijnpaaGreat
open Go.RowKit
def rdv (w:World):Value→Nat
 | .slice (some a) n _ => M.val ((List.range n).map (fun j => match w.cell? ⟨a.block,a.off + j,none⟩ with | some (.int _ x) => x.toNat | _ => 0))
 | _ => 0
def DvrIs (B:Nat) (w':World) (e:Ending) (g:Nat):Prop:=∃ v l,e = .returned v∧New B w' v l∧M.Tr l∧M.val l = g
theorem New.slice {B:Nat} {w:World} {v:Value} {l:List Nat} (h:New B w v l):∃ ao cap,v = .slice ao l.length cap:=h.shape
end Go.Proofs.YtdcgdpbgnijnpaaGreat

namespace Go.Proofs.YtdcgdpbgnijnpaaGreat
open Go.RowKit
def GcdIs (B:Nat) (w':World) (e:Ending) (g:Nat):Prop:=∃ ao k cap l,e = .returned (.tuple #[.agg #[.bool false,.slice ao k cap],.int .i64 0])∧New B w' (.slice ao k cap) l∧M.Right false l∧M.val l = g
def ExaIs (B:Nat) (w':World) (e:Ending) (m n:Bool) (a b:List Nat):Prop:=∃ s ao k cap l,e = .returned (.tuple #[.agg #[.bool s,.slice ao k cap],.int .i64 0])∧New B w' (.slice ao k cap) l∧M.Right s l∧M.int s l * M.int n b = M.int m a
theorem exa_int {m n:Bool} {a b q:List Nat} (h:M.val a = M.val q * M.val b):M.int (m != n) q * M.int n b = M.int m a:=by
 unfold M.int
 cases m <;> cases n <;> simp [h,Int.mul_neg,Int.neg_mul]
set_option maxHeartbeats 1000000 in
theorem exact_any (m n:Bool) (va vb:Value) (a b:List Nat) (w:World) (ha:Sl w va a) (hb:Sl w vb b) (hra:R m a) (hrb:R n b) (hb0:0 < b.length) :
  Calls Tryz.prog 95 #[.agg #[.bool m,va],.agg #[.bool n,vb]] w fun e w' => Kept w w'∧((M.val b ∣ M.val a∧ExaIs w.heap.size w' e m n a b) ∨ (¬ M.val b ∣ M.val a∧e = .returned (.tuple #[.agg #[.bool false,.slice none 0 0],.int .i64 12]))):=by
 have HR:Hid (R m a∧R n b):=⟨hra,hrb⟩
 have HA:Hid (Sl w va a∧Sl w vb b):=⟨ha,hb⟩
 have HP:Hid (0 < M.val b):=M.val_pos hrb.tr (fun e => by rw [e] at hb0; simp at hb0)
 obtain ⟨P,hP⟩:∃ P:World→Ending→Prop,P = fun w' e => ((M.val b ∣ M.val a∧ExaIs w.heap.size w' e m n a b) ∨ (¬ M.val b ∣ M.val a∧e = .returned (.tuple #[.agg #[.bool false,.slice none 0 0],.int .i64 12]))):=⟨_,rfl⟩
 have HPP:Hid (∀ w' e,P w' e = ((M.val b ∣ M.val a∧ExaIs w.heap.size w' e m n a b) ∨ (¬ M.val b ∣ M.val a∧e = .returned (.tuple #[.agg #[.bool false,.slice none 0 0],.int .i64 12])))):=fun w' e => by rw [hP]
 suffices hs:Calls Tryz.prog 95 #[.agg #[.bool m,va],.agg #[.bool n,vb]] w fun e w' => Kept w w'∧P w' e by
  refine hs.mono ?_
  rintro e w' ⟨h1,h2⟩
  exact ⟨h1,by rw [← HPP.out]; exact h2⟩
 clear hra hrb ha hb hP
 have K3:∀ x y t,Kept w (((w.alloc x).alloc y).alloc t):=fun x y t => (((Kept.refl w).alloc x).alloc y).alloc t
 go_enter Tryz.func95,Tryz.ntmps95
 go_wp2_with fail
 refine (quoRem_any m n va vb a b _ (HA.out.1.kept (K3 _ _ _)) (HA.out.2.kept (K3 _ _ _)) HR.out.1 HR.out.2 hb0).mono ?_
 rintro e w1 ⟨hk,s,aq,nq,cq,q,t,ar,nr,cr,r,rfl,hnq,hnr,hrq,hrr,hval,hlt,hiq,hir⟩
 have e1:=hnr.len
 obtain ⟨hA0,hA1,hB0,hB1,hR0,hR1⟩:=box_kept3 hk
 have hsz:=hk.size
 simp at hsz
 have hsz1:w.heap.size + 1 + 1 < w1.heap.size:=by omega
 have hsz2:w.heap.size + 1 + 1 < w1.heap.size + 1:=by omega
 have hf:∀ o,w1.frozen? ⟨w.heap.size + 1 + 1,o,none⟩ = false:=fun o => by rw [hk.frozens (w.heap.size + 1 + 1) o (by simp)]; exact World.frozen?_alloc_at _ _ _ _ (by simp)
 have HF:Hid (Kept w w1∧New (w.heap.size + 1 + 1 + 1) w1 (.slice aq nq cq) q∧M.Right s q∧M.val a = M.val q * M.val b + M.val r∧M.val r < M.val b∧M.int s q = M.int (m != n) q∧M.Tr r∧nr = r.length) :=
  ⟨(K3 _ _ _).trans hk,hnq.mono (by simp),hrq,hval,hlt,hiq,hrr.tr,e1⟩
 have hnr72:nr≤72:=by rw [e1]; exact hrr.len
 clear hk hnq hnr hrq hrr hval hlt hiq hir e1
 by_cases h0:nr = 0
 ·
  have HV:Hid (M.val b ∣ M.val a∧M.val a = M.val q * M.val b):=by
   have hr0:r = []:=List.length_eq_zero_iff.1 (by have:=HF.out.2.2.2.2.2.2.2; omega)
   have h9:=HF.out.2.2.2.1
   rw [hr0] at h9
   simp only [M.val,Nat.add_zero] at h9
   exact ⟨⟨M.val q,by rw [h9,Nat.mul_comm]⟩,h9⟩
  subst h0
  go_wp2
  refine bodyPost_ret (v:=.tuple #[.agg #[.bool s,.slice aq nq cq],.int .i64 0]) (by simp [results,Tryz.results95,go_sem,hR0,hR1,hsz1,hsz2]) rfl ⟨?_,?_⟩
  ·
   exact (((HF.out.1.setCell (by show w.heap.size≤w.heap.size + 1 + 1; omega) _).setCell (by show w.heap.size≤w.heap.size + 1 + 1; omega) _).alloc _).alloc _
  ·
   rw [HPP.out]
   refine .inl ⟨HV.out.1,s,aq,nq,cq,q,rfl,?_,HF.out.2.2.1,by rw [HF.out.2.2.2.2.2.1]; exact exa_int HV.out.2⟩
   exact (((HF.out.2.1.other (by show w.heap.size + 1 + 1 < w.heap.size + 1 + 1 + 1; omega) _).other (by show w.heap.size + 1 + 1 < w.heap.size + 1 + 1 + 1; omega) _).kept (((Kept.refl _).alloc _).alloc _)).mono (by omega)
 ·
  have HV:Hid (¬ M.val b ∣ M.val a):=by
   intro hd
   have h9:=HF.out
   have hr0:M.val r ≠ 0:=fun e => h0 (by rw [h9.2.2.2.2.2.2.2,(M.val_zero h9.2.2.2.2.2.2.1).1 e]; rfl)
   have h8:=Nat.mod_eq_zero_of_dvd hd
   rw [h9.2.2.2.1,Nat.mul_comm,Nat.mul_add_mod,Nat.mod_eq_of_lt h9.2.2.2.2.1] at h8
   exact hr0 h8
  have h1:(0:Int) < (nr:Int):=by omega
  go_wp2
  refine bodyPost_ret (v:=.tuple #[.agg #[.bool false,.slice none 0 0],.int .i64 12]) (by simp [results,Tryz.results95,go_sem,hR0,hR1,hsz1,hsz2]) rfl ⟨?_,?_⟩
  ·
   exact (((HF.out.1.setCell (by show w.heap.size≤w.heap.size + 1 + 1; omega) _).setCell (by show w.heap.size≤w.heap.size + 1 + 1; omega) _).alloc _).alloc _
  ·
   rw [HPP.out]
   exact .inr ⟨HV.out,rfl⟩
end Go.Proofs.YtdcgdpbgnijnpaaGreat

/- bits.LeadingZeros32, in plain numbers; windows of a row. divideLong of limb: the long division, limb by limb from the top. duplicate of any magnitude, the empty one too. divide of limb, whole; QuoRem and Exact. blend of limb: a multiple less a multiple. topWord and leading of limb: the top words of two numbers. surely of limb: Lehmer's strides by the top words; wordDivisor. apply and some of limb's strides. divisor and Gcd of limb. Gcd and Exact of limb. -/
import Derived.Test.YtojbncpifpghgaaKshr
import Derived.Test.YtojbncpifpghgaaLz
import Derived.Test.YtojbncpifpghgaaGaf
import Derived.Test.YtojbncpifpghgaaGab
import Derived.Deep.RegionHeld3
namespace Go.Proofs.Ytojbncpifpghgaa
open Go.RowKit
theorem bitLen_bounds:∀ (k x:Nat),k = x→x ≠ 0→x < 2 ^ 64→1≤Lib.bitLen x∧2 ^ (Lib.bitLen x - 1)≤x∧x < 2 ^ Lib.bitLen x:=by
 intro k
 induction k using Nat.strongRecOn with
 | ind k ih =>
  intro x hk h0 h
  rw [Lib.bitLen_half x h0 h]
  by_cases h1:x / 2 = 0
  ·
   have hx:x = 1:=by omega
   subst hx
   decide
  ·
   obtain ⟨a,b,c⟩:=ih (x / 2) (by omega) (x / 2) rfl h1 (by omega)
   refine ⟨by omega,?_,?_⟩
   ·
    rw [show 1 + Lib.bitLen (x / 2) - 1 = (Lib.bitLen (x / 2) - 1) + 1 by omega,Nat.pow_succ]; omega
   ·
    rw [show 1 + Lib.bitLen (x / 2) = Lib.bitLen (x / 2) + 1 by omega,Nat.pow_succ]; omega
theorem lz_any (x:Nat) (w:World) (h0:0 < x) (h1:x < 4294967296) :
  Calls Try.prog 58 #[.int .u32 (x:Int)] w fun e w' => w' = w∧∃ s:Nat,e = .returned (.int .i64 (s:Int))∧s≤31∧2147483648≤x * 2 ^ s∧x * 2 ^ s < 4294967296:=by
 refine (lzeros_any (x:Int) w (by omega) (by omega)).mono ?_
 rintro e w' ⟨rfl,rfl⟩
 obtain ⟨a,b,c⟩:=bitLen_bounds x x rfl (by omega) (by omega)
 have d:=Lib.bitLen_le x 32 (by omega) (by omega)
 rw [Int.toNat_natCast]
 generalize Lib.bitLen x = n at *
 refine ⟨rfl,32 - n,by rw [show (32:Int) - (n:Int) = ((32 - n:Nat):Int) by omega],by omega,?_,?_⟩
 ·
  have h2:2 ^ (n - 1) * 2 ^ (32 - n)≤x * 2 ^ (32 - n):=Nat.mul_le_mul_right _ b
  rw [← Nat.pow_add,show n - 1 + (32 - n) = 31 by omega] at h2
  omega
 ·
  have h2:x * 2 ^ (32 - n) < 2 ^ n * 2 ^ (32 - n):=Nat.mul_lt_mul_of_pos_right c (Nat.two_pow_pos _)
  rw [← Nat.pow_add,show n + (32 - n) = 32 by omega] at h2
  omega
theorem Win.sub {w:World} {b N:Nat} {f:Nat→Value} {R:List Nat} (h:Win w b N 0 f R) (i m:Nat) (hi:i + m≤R.length):Win w b N i f ((R.drop i).take m):=by
 have hl:((R.drop i).take m).length = m:=by rw [List.length_take,List.length_drop]; omega
 refine ⟨h.row,fun j hj => ?_,by have:=h.len; omega,(h.bd.drop i).take m⟩
 rw [hl] at hj
 have h9:=h.at_ (i + j) (by omega)
 rw [Nat.zero_add] at h9
 rw [h9,List.getD_eq_getElem?_getD,List.getD_eq_getElem?_getD,List.getElem?_take_of_lt hj,List.getElem?_drop]
theorem Win.join {w w':World} {b N i:Nat} {f f':Nat→Value} {R W:List Nat} (h:Win w b N 0 f R) (h':Win w' b N i f' W) (hf:∀ j,j < i ∨ i + W.length≤j→f' j = f j) (hi:i + W.length≤R.length):Win w' b N 0 f' (R.take i ++ W ++ R.drop (i + W.length)):=by
 have hti:(R.take i).length = i:=by rw [List.length_take]; omega
 have hlen:(R.take i ++ W ++ R.drop (i + W.length)).length = R.length:=by simp only [List.length_append,hti,List.length_drop]; omega
 refine ⟨h'.row,fun j hj => ?_,by have:=h.len; omega,fun x hx => ?_⟩
 ·
  rw [hlen] at hj
  rw [Nat.zero_add,List.append_assoc]
  have hR:=h.at_ j hj
  rw [Nat.zero_add] at hR
  simp only [List.getD_eq_getElem?_getD] at hR ⊢
  by_cases h1:j < i
  ·
   rw [hf j (.inl h1),hR,List.getElem?_append_left (by omega),List.getElem?_take_of_lt h1]
  ·
   by_cases h2:j < i + W.length
   ·
    have h9:=h'.at_ (j - i) (by omega)
    rw [show i + (j - i) = j by omega] at h9
    rw [h9,List.getD_eq_getElem?_getD,List.getElem?_append_right (by omega),hti,List.getElem?_append_left (by omega)]
   ·
    rw [hf j (.inr (by omega)),hR,List.getElem?_append_right (by omega),hti,List.getElem?_append_right (by omega),List.getElem?_drop,show i + W.length + (j - i - W.length) = j by omega]
 ·
  rcases List.mem_append.1 hx with h1 | h1
  ·
   rcases List.mem_append.1 h1 with h2 | h2
   ·
    exact h.bd x (List.mem_of_mem_take h2)
   ·
    exact h'.bd x h2
  ·
   exact h.bd x (List.mem_of_mem_drop h1)
theorem New.win {B b n c:Nat} {w:World} {l:List Nat} (h:New B w (.slice (some ⟨b,0,none⟩) n c) l):n = l.length∧B≤b∧l.length≤c∧∃ f,Win w b c 0 f l:=by
 obtain ⟨hb,⟨hv,rfl⟩ | ⟨b',N',f,hv,hB,hN,hr,hf⟩⟩:=h
 ·
  simp at hv
 ·
  simp only [Value.slice.injEq,Option.some.injEq,Addr.mk.injEq] at hv
  obtain ⟨⟨rfl,_,_⟩,rfl,rfl⟩:=hv
  exact ⟨rfl,hB,hN,f,hr,fun j hj => by rw [Nat.zero_add]; exact hf j hj,by omega,hb⟩
theorem Win.new {B w b c} {f:Nat→Value} {l:List Nat} (h:Win w b c 0 f l) (hB:B≤b):New B w (.slice (some ⟨b,0,none⟩) l.length c) l :=
 ⟨h.bd,.inr ⟨b,c,f,rfl,hB,by have:=h.len; omega,h.row,fun j hj => by have:=h.at_ j hj; rwa [Nat.zero_add] at this⟩⟩
theorem Win.grown {w w':World} {b b' N i:Nat} {f:Nat→Value} {q:List Nat} (h:Win w b N i f q) (hg:w.grownBy w' (some b')) (hne:b ≠ b'):Win w' b N i f q :=
 ⟨h.row.of_block (hg.block b h.row.lt (fun e => hne (Option.some.inj e))),h.at_,h.len,h.bd⟩
theorem lt_pow_top {d:List Nat} {n:Nat} (hb:M.Bd d) (hl:d.length = n + 1) (h:2147483648 * 4294967296 ^ n≤M.val d):2147483648≤d.getD n 0:=by
 rw [M.take_drop_val d n (by omega),M.drop_getD d n (by omega),List.drop_of_length_le (by omega)] at h
 have h1:=M.val_lt (hb.take n)
 rw [List.length_take,Nat.min_eq_left (by omega)] at h1
 simp only [M.val,Nat.mul_zero,Nat.add_zero] at h
 apply Classical.byContradiction
 intro hn
 have h2:4294967296 ^ n * (d.getD n 0 + 1)≤4294967296 ^ n * 2147483648:=Nat.mul_le_mul_left _ (by omega)
 rw [Nat.mul_add] at h2
 omega
theorem shifted_divisor {b p:List Nat} {n s x S:Nat} (hS:S = 2 ^ s) (hs:s≤31) (hb:M.Bd b) (hbl:b.length = n + 1) (hx:x = b.getD n 0) (hpb:M.Bd p) (hpl:p.length = n + 2) (hv:M.val p = M.val b * S) (h1:2147483648≤x * S) (h2:x * S < 4294967296) :
  M.val (p.take (n + 1)) = M.val b * S∧(p.take (n + 1)).length = n + 1∧2147483648≤(p.take (n + 1)).getD n 0:=by
 have e:=M.take_drop_val b n (by omega)
 rw [M.drop_getD b n (by omega),List.drop_of_length_le (by omega),← hx] at e
 simp only [M.val,Nat.mul_zero,Nat.add_zero] at e
 have hlow:=M.val_lt (hb.take n)
 rw [List.length_take,Nat.min_eq_left (by omega)] at hlow
 obtain ⟨T,hT⟩:∃ T,4294967296 = T * S:=⟨2 ^ (32 - s),by rw [hS,← Nat.pow_add,show 32 - s + s = 32 by omega]⟩
 have hS0:0 < S:=by rw [hS]; exact Nat.two_pow_pos s
 have hxT:(x + 1) * S≤4294967296:=by
  rw [hT] at h2 ⊢
  exact Nat.mul_le_mul_right _ (Nat.lt_of_mul_lt_mul_right h2)
 have hub:M.val b * S < 4294967296 ^ (n + 1):=by
  have h3:M.val b < 4294967296 ^ n * (x + 1):=by rw [Nat.mul_add]; omega
  have h4:M.val b * S < 4294967296 ^ n * (x + 1) * S:=Nat.mul_lt_mul_of_pos_right h3 hS0
  have h5:4294967296 ^ n * ((x + 1) * S)≤4294967296 ^ n * 4294967296:=Nat.mul_le_mul_left _ hxT
  rw [Nat.mul_assoc] at h4
  rw [Nat.pow_succ]
  omega
 have hlo:2147483648 * 4294967296 ^ n≤M.val b * S:=by
  have h3:4294967296 ^ n * x * S≤M.val b * S:=Nat.mul_le_mul_right _ (by omega)
  have h4:4294967296 ^ n * 2147483648≤4294967296 ^ n * (x * S):=Nat.mul_le_mul_left _ h1
  rw [Nat.mul_assoc] at h3
  omega
 have ep:=M.take_drop_val p (n + 1) (by omega)
 have hz:M.val (p.drop (n + 1)) = 0:=by
  apply Classical.byContradiction
  intro hn
  have h3:4294967296 ^ (n + 1) * 1≤4294967296 ^ (n + 1) * M.val (p.drop (n + 1)):=Nat.mul_le_mul_left _ (by omega)
  omega
 rw [hz,Nat.mul_zero,Nat.add_zero] at ep
 have hl:(p.take (n + 1)).length = n + 1:=by rw [List.length_take]; omega
 have hval:M.val (p.take (n + 1)) = M.val b * S:=by rw [← ep,hv]
 exact ⟨hval,hl,lt_pow_top (hpb.take _) hl (by rw [hval]; exact hlo)⟩
theorem shifted_number {a r d:List Nat} {m n s S:Nat} (hS:S = 2 ^ s) (hs:s≤31) (ha:M.Bd a) (hal:a.length = m) (hrb:M.Bd r) (hrl:r.length = m + 1) (hv:M.val r = M.val a * S) (hdl:d.length = n + 1) (hnm:n + 1≤m) (htop:2147483648≤d.getD n 0):M.val (r.drop (m - n)) < M.val d:=by
 have hS0:0 < S:=by rw [hS]; exact Nat.two_pow_pos s
 have hS1:S≤2147483648:=by rw [hS]; exact Nat.le_trans (Nat.pow_le_pow_right (by decide) hs) (by decide)
 have h1:=M.val_lt ha
 rw [hal] at h1
 have h2:M.val a * S < 4294967296 ^ m * S:=Nat.mul_lt_mul_of_pos_right h1 hS0
 have e:=M.take_drop_val r m (by omega)
 rw [M.drop_getD r m (by omega),List.drop_of_length_le (by omega)] at e
 simp only [M.val,Nat.mul_zero,Nat.add_zero] at e
 have ht:r.getD m 0 < 2147483648:=by
  apply Classical.byContradiction
  intro hn
  have h3:4294967296 ^ m * S≤4294967296 ^ m * r.getD m 0:=Nat.mul_le_mul_left _ (by omega)
  omega
 refine lt_of_top (n:=n) (hrb.drop _) (by rw [List.length_drop]; omega) hdl ?_
 have e2:(r.drop (m - n)).getD n 0 = r.getD m 0:=by
  rw [List.getD_eq_getElem?_getD,List.getElem?_drop,show m - n + n = m by omega,← List.getD_eq_getElem?_getD]
 omega
end Go.Proofs.Ytojbncpifpghgaa

namespace Go.Proofs.Ytojbncpifpghgaa
open Go.RowKit
theorem make_diff (m n L:Nat) (h:m = n + L) (hL:L≤1000000) (w:World) :
  (Instr.makeSlice 26 (.int .i64 ((m:Int) - (n:Int))) (.int .i64 ((m:Int) - (n:Int)))).run Try.prog w = .ok (.slice (some ⟨w.heap.size,0,none⟩) L L) (w.alloc (.cells (madeCells #[.int .u32 0] L) 76)):=by
 have e:(m:Int) - (n:Int) = (L:Int):=by omega
 rw [e]
 exact make_limbs L hL w
theorem row_zeros (w:World) (n:Nat):(w.alloc (.cells (madeCells #[.int .u32 0] n) 76)).rowIs w.heap.size 76 n (fun j => .int .u32 (((List.replicate n 0).getD j 0:Nat):Int)) :=
 (row_made w n).congr (fun j _ => by
  rw [List.getD_eq_getElem?_getD,List.getD_eq_getElem?_getD,List.getElem?_replicate]
  split <;> simp)
set_option maxRecDepth 100000 in
set_option maxHeartbeats 4000000 in
theorem divideLong_any (aoa aob:Option Addr) (capa capb:Nat) (a b:List Nat) (w:World) (ha:Sl w (.slice aoa a.length capa) a) (hb:Sl w (.slice aob b.length capb) b) (hla:a.length≤900) (hab:b.length≤a.length) (hb2:2≤b.length) (tb:M.Tr b) :
  Calls Try.prog 63 #[.slice aoa a.length capa,.slice aob b.length capb] w fun e w' => Kept w w'∧DivIs w.heap.size w' e a b:=by
 have HA:Hid (Sl w (.slice aoa a.length capa) a):=ha
 have HB:Hid (Sl w (.slice aob b.length capb) b):=hb
 have bda:=ha.bd
 have bdb:=hb.bd
 obtain ⟨bb,ob,rfl,hckb,htop0⟩:∃ bb ob,aob = some ⟨bb,ob,none⟩∧w.cell? ⟨bb,ob + (b.length - 1),none⟩ = some (.int .u32 ((b.getD (b.length - 1) 0:Nat):Int))∧0 < b.getD (b.length - 1) 0:=by
  obtain ⟨_,ao',cap',he,hx⟩:=hb
  simp only [Value.slice.injEq] at he
  obtain ⟨rfl,_,rfl⟩:=he
  obtain ⟨_,b',off,rfl,_,hc⟩:=hx (by omega)
  refine ⟨b',off,rfl,hc (b.length - 1) (by omega),?_⟩
  rcases tb with h | h <;> omega
 have htop1:=bdb.getD (b.length - 1)
 obtain ⟨x,hx⟩:∃ x,x = b.getD (b.length - 1) 0:=⟨_,rfl⟩
 rw [← hx] at hckb htop0 htop1
 have HX:Hid (x = b.getD (b.length - 1) 0):=hx
 obtain ⟨la,hla'⟩:∃ la,la = a.length:=⟨_,rfl⟩
 obtain ⟨lb,hlb'⟩:∃ lb,lb = b.length:=⟨_,rfl⟩
 rw [← hlb'] at hckb hab hb2
 rw [← hla'] at hla hab
 rw [← hla',← hlb']
 have HL:Hid (la = a.length∧lb = b.length):=⟨hla',hlb'⟩
 clear hx hla' hlb' ha hb tb
 have hb1:1≤lb:=by omega
 go_enter Try.func63,Try.ntmps63
 go_wp2_with fail
 refine (lz_any x _ htop0 htop1).mono ?_
 rintro e w0 ⟨rfl,s,rfl,hs,hs1,hs2⟩
 have HSX:Hid (2147483648≤x * 2 ^ s∧x * 2 ^ s < 4294967296):=⟨hs1,hs2⟩
 clear hs1 hs2 hckb htop0 htop1
 obtain ⟨S,hS⟩:∃ S,S = 2 ^ s:=⟨_,rfl⟩
 have HSS:Hid (S = 2 ^ s):=hS
 clear hS
 -- the divisor
 go_wp2_with fail
 have hc1:=shiftLeft_any (some ⟨bb,ob,none⟩) capb b s w0 HB.out (by have:=HL.out; omega) hs
 rw [← HL.out.2,← HSS.out] at hc1
 refine hc1.mono ?_
 rintro e w1 ⟨hk1,b1,N1,p,rfl,hn1,hl1,hv1⟩
 clear hc1
 obtain ⟨_,hB1,hN1,f1,hw1⟩:=hn1.win
 obtain ⟨n,rfl⟩:∃ n,lb = n + 1:=⟨lb - 1,by omega⟩
 obtain ⟨hd1,hd2,hd3⟩:=shifted_divisor (x:=x) HSS.out hs bdb HL.out.2.symm (by have:=HX.out; rw [← HL.out.2] at this; exact this) hw1.bd hl1 hv1 (by rw [HSS.out]; exact HSX.out.1) (by rw [HSS.out]; exact HSX.out.2)
 obtain ⟨d,hd⟩:∃ d,d = p.take (n + 1):=⟨_,rfl⟩
 rw [← hd] at hd1 hd2 hd3
 have HD:Hid (Sl w1 (.slice (some ⟨b1,0,none⟩) (n + 1) N1) d∧M.val d = M.val b * S∧d.length = n + 1∧2147483648≤d.getD n 0):=by
  refine ⟨?_,hd1,hd2,hd3⟩
  have h9:=(hw1.sub 0 (n + 1) (by omega)).sl (cap:=N1) (by rw [List.length_take,List.length_drop]; omega)
  rw [List.drop_zero,← hd,hd2] at h9
  exact h9
 have HK1:Hid (Kept w0 w1∧w0.heap.size≤b1∧b1 < w1.heap.size):=⟨hk1,hB1,hw1.row.lt⟩
 have hN1':n + 1 + 1≤N1:=by omega
 clear hk1 hn1 hl1 hv1 hB1 hN1 hw1 hd1 hd2 hd3 hd
 -- the number
 go_wp2_with fail
 have hc2:=shiftLeft_any aoa capa a s w1 (HA.out.kept HK1.out.1) (by have:=HL.out; omega) hs
 rw [← HL.out.1,← HSS.out] at hc2
 refine hc2.mono ?_
 rintro e w2 ⟨hk2,b2,N2,r,rfl,hn2,hl2,hv2⟩
 clear hc2
 obtain ⟨_,hB2,hN2,f2,hw2⟩:=hn2.win
 have hlt2:=shifted_number HSS.out hs bda HL.out.1.symm hw2.bd hl2 hv2 HD.out.2.2.1 hab HD.out.2.2.2
 obtain ⟨rl,hrl⟩:∃ rl,rl = la + 1:=⟨_,rfl⟩
 obtain ⟨L,hL⟩:∃ L,L = la - n:=⟨_,rfl⟩
 rw [← hL] at hlt2
 rw [← hrl] at hl2 ⊢
 have HR:Hid (r.length = rl∧M.val r = M.val a * S∧M.val (r.drop L) < M.val d∧∃ f,Win w2 b2 N2 0 f r):=⟨hl2,hv2,hlt2,f2,hw2⟩
 have HK2:Hid (Kept w0 w2∧Kept w1 w2∧w1.heap.size≤b2∧b2 < w2.heap.size):=⟨HK1.out.1.trans hk2,hk2,hB2,hw2.row.lt⟩
 have hN2':rl≤N2:=by omega
 have HLL:Hid (L = la - n∧rl = la + 1∧n + 1≤la):=⟨hL,hrl,hab⟩
 have hL1:1≤L:=by omega
 have hL2:L≤900:=by omega
 have hmk:=make_diff rl (n + 1) L (by omega) (by omega)
 simp only [show ((n + 1:Nat):Int) = (n:Int) + 1 by omega] at hmk
 have hrl2:rl≤901:=by omega
 have hrn:n + 1≤rl:=by omega
 clear hk2 hn2 hl2 hv2 hB2 hN2 hw2 hrl hL hab hla hlt2
 go_wp2
 have hrow0:=row_zeros w2 L
 obtain ⟨b3,hb3⟩:∃ b3,b3 = w2.heap.size:=⟨_,rfl⟩
 rw [← hb3] at hrow0 ⊢
 obtain ⟨w3,hw3⟩:∃ w3,w3 = w2.alloc (.cells (madeCells #[.int .u32 0] L) 76):=⟨_,rfl⟩
 rw [← hw3] at hrow0 ⊢
 have hk3:Kept w2 w3:=by rw [hw3]; exact (Kept.refl w2).alloc _
 have HB3:Hid (b1 < b2∧b2 < b3∧w0.heap.size≤b1):=by
  have h1:=HK1.out
  have h2:=HK2.out
  rw [hb3]
  exact ⟨by omega,by omega,by omega⟩
 have hH0:∃ g,Win w3 b2 N2 0 g r:=by
  obtain ⟨f,hf⟩:=HR.out.2.2.2
  exact ⟨f,hf.kept hk3⟩
 have HS0:Hid ((∃ g,Win w3 b2 N2 0 g r)∧w3.rowIs b3 76 L (fun j => .int .u32 (((List.replicate L 0).getD j 0:Nat):Int))∧Sl w3 (.slice (some ⟨b1,0,none⟩) (n + 1) N1) d∧Kept w0 w3) :=
  ⟨hH0,hrow0,(HD.out.1.kept HK2.out.2.1).kept hk3,HK2.out.1.trans hk3⟩
 clear hrow0 hb3 hw3 hk3 hH0 hmk
 go_loopw [10] (fun vi wr => ∃ (k:Nat) (o R:List Nat),k≤L∧vi = .int .i64 ((k:Int) - 1)∧Hid (R.length = rl∧o.length = L∧M.Bd o∧M.val (R.drop k) < M.val d∧M.val a * S = M.val (o.drop k) * 4294967296 ^ k * M.val d + M.val R) ∧
   Hid (∃ g,Win wr b2 N2 0 g R)∧Hid (wr.rowIs b3 76 L (fun j => .int .u32 ((o.getD j 0:Nat):Int)))∧Hid (Sl wr (.slice (some ⟨b1,0,none⟩) (n + 1) N1) d)∧Hid (Kept w0 wr)) (fun vi _ => (intOf vi + 1).toNat)
 case atStart =>
  refine ⟨L,List.replicate L 0,r,Nat.le_refl _,rfl,⟨HR.out.1,List.length_replicate,Bd_replicate L,HR.out.2.2.1,?_⟩,HS0.out.1,HS0.out.2.1,HS0.out.2.2.1,HS0.out.2.2.2⟩
  rw [List.drop_of_length_le (by rw [List.length_replicate]; exact Nat.le_refl _),HR.out.2.1]
  simp [M.val]
 case round =>
  obtain ⟨k,o,R,hk,rfl,ho,hwin,hrow,hby,hkept⟩:=hrel
  by_cases h0:k = 0
  ·
   subst h0
   obtain ⟨g,hg⟩:=hwin.out
   obtain ⟨hR1,hR2,hR3,hR4,hR5⟩:=ho.out
   rw [List.drop_zero] at hR4
   rw [List.drop_zero,Nat.pow_zero,Nat.mul_one] at hR5
   have hS0:0 < S:=by rw [HSS.out]; exact Nat.two_pow_pos s
   have hend:=div_end (A:=M.val a) (B:=M.val b) HD.out.2.1 hS0 hR5 hR4
   have hcall:=shiftRight_any b2 N2 N2 g R s wr hg (by omega) (by omega) hs
   rw [hR1,← HSS.out] at hcall
   have HC:Hid (Calls Try.prog 67 #[.slice (some ⟨b2,0,none⟩) rl N2,.int .i64 (s:Int)] wr fun e w' => wr.grownBy w' (some b2)∧e = .returned (.tuple #[])∧∃ f' q',Win w' b2 N2 0 f' q'∧q'.length = rl∧M.val q' = M.val R / S):=hcall
   have HE:Hid (M.val a = M.val o * M.val b + M.val R / S∧M.val R / S < M.val b∧o.length = L∧M.Bd o):=⟨hend.1,hend.2,hR2,hR3⟩
   clear hg hR1 hR2 hR3 hR4 hR5 hS0 hend hcall hN1' hb2 hb1
   go_wp2_with fail
   refine HC.out.mono ?_
   rintro e w4 ⟨hgr4,rfl,f4,R',hw4,hl4,hv4⟩
   have hb3':=HB3.out
   have hnq:New w0.heap.size w4 (.slice (some ⟨b3,0,none⟩) L L) o:=New.of_row (hrow.out.of_block (hgr4.block b3 hrow.out.lt (fun e => by have:=Option.some.inj e; omega))) HE.out.2.2.2 HE.out.2.2.1.symm (Nat.le_refl _) (by omega)
   have hnr:New w0.heap.size w4 (.slice (some ⟨b2,0,none⟩) rl N2) R':=by have h9:=hw4.new (B:=w0.heap.size) (by omega); rwa [hl4] at h9
   have H4:Hid (Kept w0 w4∧New w0.heap.size w4 (.slice (some ⟨b3,0,none⟩) L L) o∧New w0.heap.size w4 (.slice (some ⟨b2,0,none⟩) rl N2) R'∧R'.length = rl∧M.val R' = M.val R / S) :=
    ⟨Below.grown hkept.out hgr4 hkept.out.size (fun k hk => by cases hk; omega),hnq,hnr,hl4,hv4⟩
   clear hgr4 hw4 hl4 hv4 hnq hnr hb3' HC
   go_wp2_with fail
   refine (trim_new _ H4.out.2.1 (by rw [HE.out.2.2.1]; omega)).mono ?_
   rintro e w5 ⟨rfl,vq,q',rfl,hq1,hq2,hq3,hq4⟩
   have HQ:Hid (New w0.heap.size w5 vq q'∧M.Tr q'∧M.val q' = M.val o∧q'.length≤o.length):=⟨hq1,hq2,hq3,hq4⟩
   clear hq1 hq2 hq3 hq4
   go_wp2_with fail
   refine (trim_new _ H4.out.2.2.1 (by rw [H4.out.2.2.2.1]; omega)).mono ?_
   rintro e w6 ⟨rfl,vr,r',rfl,hr1,hr2,hr3,hr4⟩
   have HRR:Hid (New w0.heap.size w6 vr r'∧M.Tr r'∧M.val r' = M.val R'):=⟨hr1,hr2,hr3⟩
   clear hr1 hr2 hr3 hr4
   go_wp2
   go_ret2
   have hE:=HE.out
   refine ⟨H4.out.1,vq,q',vr,r',rfl,HQ.out.1,HRR.out.1,HQ.out.2.1,HRR.out.2.1,?_,?_,?_⟩
   ·
    have h1:=HQ.out.2.2.2
    have h2:=HLL.out
    have h3:=HL.out
    omega
   ·
    rw [HQ.out.2.2.1,HRR.out.2.2,H4.out.2.2.2.2]; exact hE.1
   ·
    rw [HRR.out.2.2,H4.out.2.2.2.2]; exact hE.2.1
  ·
   obtain ⟨i,rfl⟩:∃ i,k = i + 1:=⟨k - 1,by omega⟩
   have hi:i < L:=by omega
   have e1:((i + 1:Nat):Int) - 1 = (i:Int):=by omega
   rw [e1]
   have hin:i + (n + 1) + 1≤rl:=by have:=HLL.out; omega
   have hii:(i:Int) + ((n:Int) + 1) + 1≤(N2:Int):=by omega
   obtain ⟨g,hg⟩:=hwin.out
   have hWw:=hg.sub i (n + 1 + 1) (by rw [ho.out.1]; omega)
   obtain ⟨W,hW⟩:∃ W,W = (R.drop i).take (n + 1 + 1):=⟨_,rfl⟩
   rw [← hW] at hWw
   have hWl:W.length = n + 1 + 1:=by rw [hW,List.length_take,List.length_drop,ho.out.1]; omega
   have hDlt:M.val d < 4294967296 ^ (n + 1):=by have:=M.val_lt hby.out.bd; rwa [HD.out.2.2.1] at this
   have hwin3:=div_window (i:=i) (n:=n + 1) hg.bd (by rw [ho.out.1]; omega) hDlt ho.out.2.2.2.1
   have hdl:=HD.out.2.2.1
   have hby':=hby.out
   rw [← hdl] at hby'
   have hcall:=takeLimb_any b2 N2 i (N2 - i) g W d b1 0 N1 wr hWw hby' (by have:=HB3.out; omega) (by omega) (by omega) (by omega) (by omega) (by rw [hdl]; exact HD.out.2.2.2) (by rw [hW]; exact hwin3.2.2)
   rw [hWl,hdl] at hcall
   have HC:Hid (Calls Try.prog 66 #[.slice (some ⟨b2,i,none⟩) (n + 1 + 1) (N2 - i),.slice (some ⟨b1,0,none⟩) (n + 1) N1] wr fun e w' => wr.grownBy w' (some b2)∧∃ f' q',e = .returned (.int .u32 ((M.val W / M.val d:Nat):Int))∧Win w' b2 N2 i f' q'∧q'.length = n + 1 + 1∧(∀ j,j < i ∨ i + (n + 1 + 1)≤j→f' j = g j)∧M.val q' = M.val W % M.val d):=hcall
   have HG:Hid (Win wr b2 N2 0 g R∧W = (R.drop i).take (n + 1 + 1)):=⟨hg,hW⟩
   have HWQ:Hid (M.val W / M.val d < 4294967296):=by
    show _ < _
    rw [Nat.div_lt_iff_lt_mul (by omega),hW]; exact hwin3.2.2
   have HDL:Hid (M.val d < 4294967296 ^ (n + 1)):=hDlt
   clear hWw hWl hDlt hwin3 hdl hby' hcall hg hW e1 h0
   go_wp2_with fail
   rw [show i + (n + 1) + 1 - i = n + 1 + 1 by omega]
   refine HC.out.mono ?_
   rintro e w4 ⟨hgr4,f4,W',rfl,hw4,hl4,hf4,hv4⟩
   clear HC
   have H4:Hid (wr.grownBy w4 (some b2)∧Win w4 b2 N2 i f4 W'∧W'.length = n + 1 + 1∧(∀ j,j < i ∨ i + (n + 1 + 1)≤j→f4 j = g j)∧M.val W' = M.val W % M.val d):=⟨hgr4,hw4,hl4,hf4,hv4⟩
   have hrow4:w4.rowIs b3 76 L (fun j => .int .u32 ((o.getD j 0:Nat):Int)):=hrow.out.of_block (hgr4.block b3 hrow.out.lt (fun e => by have:=HB3.out; have:=Option.some.inj e; omega))
   have hfz:w4.frozen? ⟨b3,i,none⟩ = false:=hrow4.frozen _
   have hcz:w4.cell? ⟨b3,i,none⟩ = some (.int .u32 ((o.getD i 0:Nat):Int)):=hrow4.cell hi
   have HROW4:Hid (w4.rowIs b3 76 L (fun j => .int .u32 ((o.getD j 0:Nat):Int))):=hrow4
   obtain ⟨z,hz⟩:∃ z:Int,z = ((o.getD i 0:Nat):Int):=⟨_,rfl⟩
   rw [← hz] at hcz
   obtain ⟨qd,hqd⟩:∃ qd,qd = M.val W / M.val d:=⟨_,rfl⟩
   have HQD:Hid (qd = M.val W / M.val d∧qd < 4294967296):=⟨hqd,by rw [hqd]; exact HWQ.out⟩
   rw [← hqd]
   clear hgr4 hw4 hl4 hf4 hv4 hrow4 hz hqd
   go_wp2
   go_roundw
   case rel =>
    obtain ⟨hgr4,hw4,hl4,hf4,hv4⟩:=H4.out
    have hR:=ho.out
    have hol:i < o.length:=by rw [hR.2.1]; exact hi
    have hgrs:w4.grownBy (w4.setCell ⟨b3,i,none⟩ (.int .u32 (qd:Int))) (some b3):=grown_set (World.grownBy.refl _ _) i _
    have hjoin:=HG.out.1.join hw4 (by rw [hl4]; exact hf4) (by rw [hl4,hR.1]; omega)
    rw [hl4] at hjoin
    have hround:=div_round (n:=n + 1) (qd:=qd) (W':=W') HG.out.1.bd (by rw [hR.1]; omega) hl4 hol HDL.out hR.2.2.2.1 hR.2.2.2.2 (by rw [HQD.out.1,HG.out.2]) (by rw [hv4,HG.out.2])
    have hb3':=HB3.out
    have hne:∀ k,some b2 = some k→w0.heap.size≤k:=fun k hk => by cases hk; omega
    refine ⟨i,o.set i qd,_,by omega,by go_num,⟨by rw [hround.1]; exact hR.1,by rw [List.length_set]; exact hR.2.1,Bd_set hR.2.2.1 _ _ HQD.out.2,hround.2.1,hround.2.2⟩,⟨_,hjoin.grown hgrs (by omega)⟩,row_set HROW4.out i hol qd _ rfl,sl_grown (sl_grown hby.out hgr4 (by omega)) hgrs (by omega),?_⟩
    exact (Below.grown hkept.out hgr4 hkept.out.size hne).setCell (by show w0.heap.size≤b3; omega) _
   case measure => simp [intOf]
end Go.Proofs.Ytojbncpifpghgaa

namespace Go.Proofs.Ytojbncpifpghgaa
open Go.RowKit
set_option maxHeartbeats 1000000 in
theorem dup_nil (cap:Nat) (w:World) :
  Calls Try.prog 50 #[.slice none 0 cap] w fun e w' => w' = w∧e = .returned (.slice none 0 0):=by
 go_enter Try.func50,Try.ntmps50
 go_wp2
 go_ret
 exact ⟨rfl,rfl⟩
set_option maxHeartbeats 1000000 in
theorem dup_emp (ad:Addr) (cap:Nat) (w:World) :
  Calls Try.prog 50 #[.slice (some ad) 0 cap] w fun e w' => w' = w∧e = .returned (.slice none 0 0):=by
 go_enter Try.func50,Try.ntmps50
 go_wp2
 go_ret
 exact ⟨rfl,rfl⟩
theorem dup_any {v:Value} {l:List Nat} (w:World) (h:Sl w v l) (hl:l.length≤1000000) :
  Calls Try.prog 50 #[v] w fun e w' => Kept w w'∧∃ v',e = .returned v'∧New w.heap.size w' v' l:=by
 by_cases h0:0 < l.length
 ·
  exact dup_some w h h0 hl
 ·
  have h1:l = []:=List.length_eq_zero_iff.1 (by omega)
  subst h1
  obtain ⟨_,ao,cap,rfl,_⟩:=h
  cases ao with
  | none =>
   refine (dup_nil cap w).mono ?_
   rintro e w' ⟨rfl,rfl⟩
   exact ⟨Kept.refl _,_,rfl,New.nil _ _⟩
  | some ad =>
   refine (dup_emp ad cap w).mono ?_
   rintro e w' ⟨rfl,rfl⟩
   exact ⟨Kept.refl _,_,rfl,New.nil _ _⟩
end Go.Proofs.Ytojbncpifpghgaa

namespace Go.Proofs.Ytojbncpifpghgaa
open Go.RowKit
set_option maxHeartbeats 1000000 in
theorem divide_less (va vb:Value) (a b:List Nat) (w:World) (ha:Sl w va a) (hb:Sl w vb b) (hla:a.length≤900) (hlb:b.length≤900) (ta:M.Tr a) (tb:M.Tr b) (hlt:M.val a < M.val b) :
  Calls Try.prog 55 #[va,vb] w fun e w' => Kept w w'∧DivIs w.heap.size w' e a b:=by
 have HT:Hid (M.Tr a∧M.Tr b∧M.val a < M.val b):=⟨ta,tb,hlt⟩
 have HA:Hid (Sl w va a):=ha
 have HB:Hid (Sl w vb b):=hb
 clear ta tb hlt ha hb
 go_enter Try.func55,Try.ntmps55
 go_wp2_with fail
 refine (compare_any _ _ a b _ HA.out HB.out (by omega) (by omega) HT.out.1 HT.out.2.1).mono ?_
 rintro e w0 ⟨rfl,nq,rfl⟩
 rw [sgn,if_pos HT.out.2.2]
 go_wp2_with fail
 refine (dup_any _ (HA.out.kept ((Kept.refl w).drewN nq)) (by omega)).mono ?_
 rintro e w1 ⟨hk1,v1,rfl,hn1⟩
 have HK1:Hid (Kept w w1∧New w.heap.size w1 v1 a):=⟨((Kept.refl w).drewN nq).trans hk1,hn1⟩
 clear hk1 hn1
 go_wp2
 go_ret2
 exact ⟨HK1.out.1,_,[],v1,a,rfl,New.nil _ _,HK1.out.2,.inl rfl,HT.out.1,by simp,by simp [M.val],HT.out.2.2⟩
set_option maxHeartbeats 1000000 in
theorem divide_long (va vb:Value) (a b:List Nat) (w:World) (ha:Sl w va a) (hb:Sl w vb b) (hla:a.length≤900) (hlb:b.length≤900) (ta:M.Tr a) (tb:M.Tr b) (hle:M.val b≤M.val a) (hb2:2≤b.length) :
  Calls Try.prog 55 #[va,vb] w fun e w' => Kept w w'∧DivIs w.heap.size w' e a b:=by
 have HT:Hid (M.Tr a∧M.Tr b∧M.val b≤M.val a):=⟨ta,tb,hle⟩
 have HLL:Hid (b.length≤a.length):=M.len_le_of_val_le tb ha.bd hle
 have HA:Hid (Sl w va a):=ha
 have HB:Hid (Sl w vb b):=hb
 obtain ⟨_,aoa,capa,rfl,_⟩:=ha
 obtain ⟨_,aob,capb,rfl,_⟩:=hb
 clear ta tb hle
 go_enter Try.func55,Try.ntmps55
 go_wp2_with fail
 refine (compare_any _ _ a b _ HA.out HB.out (by omega) (by omega) HT.out.1 HT.out.2.1).mono ?_
 rintro e w0 ⟨rfl,nq,rfl⟩
 have hs:0≤sgn (M.val a) (M.val b):=by unfold sgn; have:=HT.out.2.2; split; omega; split <;> omega
 generalize sgn (M.val a) (M.val b) = sg at *
 have hb1:((b.length:Int) == 1) = false:=by simp; omega
 go_wp2_with fail
 refine (divideLong_any aoa aob capa capb a b _ (HA.out.kept ((Kept.refl w).drewN nq)) (HB.out.kept ((Kept.refl w).drewN nq)) hla HLL.out hb2 HT.out.2.1).mono ?_
 rintro e w1 ⟨hk1,vq,q,vr,r,rfl,hd⟩
 have HK1:Hid (Kept w w1):=((Kept.refl w).drewN nq).trans hk1
 have HD:Hid (New w.heap.size w1 vq q∧New w.heap.size w1 vr r∧M.Tr q∧M.Tr r∧q.length≤a.length∧M.val a = M.val q * M.val b + M.val r∧M.val r < M.val b):=hd
 clear hk1 hd
 go_wp2
 go_ret2
 exact ⟨HK1.out,vq,q,vr,r,rfl,HD.out⟩
theorem divide_any (va vb:Value) (a b:List Nat) (w:World) (ha:Sl w va a) (hb:Sl w vb b) (hla:a.length≤900) (hlb:b.length≤900) (ta:M.Tr a) (tb:M.Tr b) (hb0:0 < b.length) :
  Calls Try.prog 55 #[va,vb] w fun e w' => Kept w w'∧DivIs w.heap.size w' e a b:=by
 by_cases h1:M.val a < M.val b
 ·
  exact divide_less va vb a b w ha hb hla hlb ta tb h1
 ·
  by_cases h2:b.length = 1
  ·
   exact divide_small va vb a b w ha hb (by omega) ta tb h2 (by omega)
  ·
   exact divide_long va vb a b w ha hb hla hlb ta tb (by omega) (by omega)
end Go.Proofs.Ytojbncpifpghgaa

namespace Go.Proofs.Ytojbncpifpghgaa
open Go.RowKit
set_option maxRecDepth 100000 in
set_option maxHeartbeats 4000000 in
theorem blend_any (n:Nat) (va vb:Value) (a b:List Nat) (p q:Nat) (w:World) (ha:Sl w va a) (hb:Sl w vb b) (hn:n≤1000) (hla:a.length≤n) (hlb:b.length≤n) (hp:p < 4294967296) (hq:q < 4294967296) (hle:q * M.val b≤p * M.val a) (hlt:p * M.val a < q * M.val b + 4294967296 ^ n) :
  Calls Try.prog 60 #[.int .i64 (n:Int),va,.int .u64 (p:Int),vb,.int .u64 (q:Int)] w fun e w' => Kept w w'∧∃ v' l',e = .returned v'∧New w.heap.size w' v' l'∧M.Tr l'∧M.val l' = p * M.val a - q * M.val b∧l'.length≤n:=by
 have HA:Hid (Sl w va a):=ha
 have HB:Hid (Sl w vb b):=hb
 have bda:=ha.bd
 have bdb:=hb.bd
 have HE:Hid (q * M.val b≤p * M.val a∧p * M.val a < q * M.val b + 4294967296 ^ n):=⟨hle,hlt⟩
 have HLN:Hid (a.length≤n∧b.length≤n):=⟨hla,hlb⟩
 have hla':a.length≤1000000:=by omega
 have hlb':b.length≤1000000:=by omega
 have hmk:=make_limbs n (by omega)
 clear ha hb hle hlt hla hlb
 go_enter Try.func60,Try.ntmps60
 go_wp2
 go_loopw [12,13,14,21] (fun vu vd vb' vi wr => ∃ (k u d bw:Nat) (o:List Nat),k≤n∧u < 4294967296∧d < 4294967296∧bw≤1∧vi = .int .i64 (k:Int)∧vu = .int .u64 (u:Int)∧vd = .int .u64 (d:Int)∧vb' = .int .u64 (bw:Int) ∧
   Hid (o.length = k∧M.Bd o∧p * M.val (a.take k) + 4294967296 ^ k * (d + bw) = M.val o + q * M.val (b.take k) + 4294967296 ^ k * u) ∧
   Hid (wr.rowIs w.heap.size 76 n (fun j => .int .u32 ((o.getD j 0:Nat):Int)))∧Hid (Kept w wr)) (fun _ _ _ vi _ => n - (intOf vi).toNat)
 case atStart => exact ⟨0,0,0,0,[],Nat.zero_le _,by omega,by omega,by omega,rfl,rfl,rfl,rfl,⟨rfl,M.Bd_nil,by simp [M.val]⟩,row_made w _,(Kept.refl w).alloc _⟩
 case round =>
  obtain ⟨k,u,d,bw,o,hk,hu,hd,hbw,rfl,rfl,rfl,rfl,ho,hrow,hkept⟩:=hrel
  by_cases hlt:k < n
  ·
   have hf:wr.frozen? ⟨w.heap.size,k,none⟩ = false:=hrow.out.frozen _
   have hco:wr.cell? ⟨w.heap.size,k,none⟩ = some (.int .u32 ((o.getD k 0:Nat):Int)):=hrow.out.cell hlt
   obtain ⟨z,hz⟩:∃ z:Int,z = ((o.getD k 0:Nat):Int):=⟨_,rfl⟩
   rw [← hz] at hco
   have hxb:=bda.getD k
   have hyb:=bdb.getD k
   have hca:=limbAt_any wr (HA.out.kept hkept.out) (k:Int) (by omega) hla'
   have hcb:=limbAt_any wr (HB.out.kept hkept.out) (k:Int) (by omega) hlb'
   rw [Int.toNat_natCast] at hca hcb
   obtain ⟨x,hx⟩:∃ x,x = a.getD k 0:=⟨_,rfl⟩
   obtain ⟨y,hy⟩:∃ y,y = b.getD k 0:=⟨_,rfl⟩
   rw [← hx] at hca hxb
   rw [← hy] at hcb hyb
   have HXY:Hid (x = a.getD k 0∧y = b.getD k 0):=⟨hx,hy⟩
   have CA:Hid (Calls Try.prog 45 #[va,.int .i64 (k:Int)] wr fun e w' => e = .returned (.int .u64 (x:Int))∧w' = wr):=hca
   have CB:Hid (Calls Try.prog 45 #[vb,.int .i64 (k:Int)] wr fun e w' => e = .returned (.int .u64 (y:Int))∧w' = wr):=hcb
   clear hx hy hca hcb hz
   have hpx:p * x≤4294967295 * 4294967295:=Nat.mul_le_mul (by omega) (by omega)
   have hqy:q * y≤4294967295 * 4294967295:=Nat.mul_le_mul (by omega) (by omega)
   obtain ⟨m1,hm1⟩:∃ m,m = p * x:=⟨_,rfl⟩
   obtain ⟨m2,hm2⟩:∃ m,m = q * y:=⟨_,rfl⟩
   rw [← hm1] at hpx
   rw [← hm2] at hqy
   have hmi1:(p:Int) * (x:Int) = (m1:Int):=by rw [hm1]; simp
   have hmi2:(q:Int) * (y:Int) = (m2:Int):=by rw [hm2]; simp
   have hw1:IntKind.u64.wrap (m1:Int) = (m1:Int):=by rw [IntKind.wrap_u64]; omega
   have hw2:IntKind.u64.wrap (m2:Int) = (m2:Int):=by rw [IntKind.wrap_u64]; omega
   have hw3:IntKind.u64.wrap ((u:Int) + (m1:Int)) = (u:Int) + (m1:Int):=by rw [IntKind.wrap_u64]; omega
   have hw4:IntKind.u64.wrap ((d:Int) + (m2:Int)) = (d:Int) + (m2:Int):=by rw [IntKind.wrap_u64]; omega
   have hal1:=and_low (u + m1) (by omega)
   rw [show ((u + m1:Nat):Int) = (u:Int) + (m1:Int) by omega] at hal1
   have hal2:=and_low (d + m2) (by omega)
   rw [show ((d + m2:Nat):Int) = (d:Int) + (m2:Int) by omega] at hal2
   have HM:Hid (m1 = p * x∧m2 = q * y):=⟨hm1,hm2⟩
   clear hm1 hm2
   go_wp2_with fail
   refine CA.out.mono ?_
   rintro e w9 ⟨rfl,rfl⟩
   go_wp2_with fail
   refine CB.out.mono ?_
   rintro e w9 ⟨rfl,rfl⟩
   go_wp2
   go_roundw
   case rel =>
    obtain ⟨v,bw',hv1,hv2,hv3,hv4,hv5⟩:=borrow_fact ((u + m1) % 4294967296) ((d + m2) % 4294967296) bw (Nat.mod_lt _ (by decide)) (Nat.mod_lt _ (by decide)) hbw
    rw [show (((u + m1) % 4294967296:Nat):Int) = ((u:Int) + (m1:Int)) % 4294967296 by omega,show (((d + m2) % 4294967296:Nat):Int) = ((d:Int) + (m2:Int)) % 4294967296 by omega] at hv4 hv5
    refine ⟨k + 1,(u + m1) / 4294967296,(d + m2) / 4294967296,bw',o ++ [v],by omega,by omega,by omega,hv2,by go_num,by simp,by simp,by rw [hv4],⟨by rw [List.length_append,ho.out.1]; rfl,ho.out.2.1.snoc hv1,?_⟩,?_,?_⟩
    ·
     exact blend_step ho.out.1 HXY.out.1 HXY.out.2 (by rw [HM.out.1]) (by rw [HM.out.2]) hv3 ho.out.2.2
    ·
     exact row_snoc hrow.out k ho.out.1.symm v _ hv5
    ·
     exact hkept.out.setCell (Nat.le_refl _) _
   case measure => simp [intOf]; omega
  ·
   obtain rfl:k = n:=by omega
   have hend:M.val o = p * M.val a - q * M.val b:=by
    have h9:=ho.out.2.2
    rw [List.take_of_length_le (l:=a) HLN.out.1,List.take_of_length_le (l:=b) HLN.out.2] at h9
    have h8:=M.val_lt ho.out.2.1
    rw [ho.out.1] at h8
    exact blend_end h9 HE.out.1 HE.out.2 h8
   have HV:Hid (M.val o = p * M.val a - q * M.val b):=hend
   have HN:Hid (New w.heap.size wr (.slice (some ⟨w.heap.size,0,none⟩) k k) o):=New.of_row hrow.out ho.out.2.1 ho.out.1.symm (Nat.le_refl _) (Nat.le_refl _)
   clear hend
   go_wp2_with fail
   refine (trim_new _ HN.out (by rw [ho.out.1]; omega)).mono ?_
   rintro e w5 ⟨rfl,vq,q',rfl,hq1,hq2,hq3,hq4⟩
   have HQ:Hid (New w.heap.size w5 vq q'∧M.Tr q'∧M.val q' = p * M.val a - q * M.val b∧q'.length≤k):=⟨hq1,hq2,by rw [hq3]; exact HV.out,by rw [← ho.out.1]; exact hq4⟩
   clear hq1 hq2 hq3 hq4
   go_wp2
   go_ret
   exact ⟨hkept.out,vq,q',rfl,HQ.out⟩
end Go.Proofs.Ytojbncpifpghgaa

namespace Go.Proofs.Ytojbncpifpghgaa
open Go.RowKit
def topW (m:List Nat) (n s:Nat):Nat:=(m.getD (n - 1) 0 * 4294967296 + m.getD (n - 2) 0) * 2 ^ s + m.getD (n - 3) 0 / 2 ^ (32 - s)
theorem top_or {z2 z1 z0 s:Nat} (h1:z1 < 4294967296) (h0:z0 < 4294967296) (hs:s≤31) (ht:z2 * 2 ^ s < 4294967296) :
  bits .or .u64 (IntKind.u64.wrap (((z2:Int) * 4294967296 + (z1:Int)) * 2 ^ s)) ((z0:Int) / 2 ^ (32 - s)) = (((z2 * 4294967296 + z1) * 2 ^ s + z0 / 2 ^ (32 - s):Nat):Int):=by
 have hST:2 ^ s * 2 ^ (32 - s) = 4294967296:=by rw [← Nat.pow_add,show s + (32 - s) = 32 by omega]
 have hS0:0 < 2 ^ s:=Nat.two_pow_pos _
 have hT0:0 < 2 ^ (32 - s):=Nat.two_pow_pos _
 have e1:((z2:Int) * 4294967296 + (z1:Int)) * 2 ^ s = (((z2 * 4294967296 + z1) * 2 ^ s:Nat):Int):=by rw [Int.natCast_mul,Int.natCast_add,Int.natCast_mul,Int.natCast_pow]; rfl
 have e2:(z0:Int) / 2 ^ (32 - s) = ((z0 / 2 ^ (32 - s):Nat):Int):=by rw [Int.natCast_ediv,Int.natCast_pow]; rfl
 have hlow:z0 / 2 ^ (32 - s) < 2 ^ s:=by rw [Nat.div_lt_iff_lt_mul hT0,hST]; exact h0
 have hz2:(z2 + 1) * 2 ^ s≤4294967296:=by
  rw [← hST,Nat.mul_comm (2 ^ s)] at ht ⊢
  exact Nat.mul_le_mul_right _ (Nat.lt_of_mul_lt_mul_right ht)
 have hbig:(z2 * 4294967296 + z1) * 2 ^ s + 2 ^ s≤18446744073709551616:=by
  have h3:(z2 * 4294967296 + z1 + 1) * 2 ^ s≤((z2 + 1) * 4294967296) * 2 ^ s:=Nat.mul_le_mul_right _ (by omega)
  have h4:((z2 + 1) * 4294967296) * 2 ^ s = ((z2 + 1) * 2 ^ s) * 4294967296:=by rw [Nat.mul_assoc,Nat.mul_comm 4294967296,← Nat.mul_assoc]
  have h5:((z2 + 1) * 2 ^ s) * 4294967296≤4294967296 * 4294967296:=Nat.mul_le_mul_right _ hz2
  rw [Nat.add_mul (z2 * 4294967296 + z1) 1] at h3
  omega
 rw [e1,e2]
 have hwr:IntKind.u64.wrap (((z2 * 4294967296 + z1) * 2 ^ s:Nat):Int) = (((z2 * 4294967296 + z1) * 2 ^ s:Nat):Int):=by
  generalize (z2 * 4294967296 + z1) * 2 ^ s = y at *
  rw [IntKind.wrap_u64]; omega
 have hS1:2 ^ s≤2147483648:=Nat.le_trans (Nat.pow_le_pow_right (by decide) hs) (by decide)
 rw [hwr,bits_or_u64_nat _ _ (by omega) (by omega)]
 have h6:=Nat.two_pow_add_eq_or_of_lt (i:=s) (b:=z0 / 2 ^ (32 - s)) hlow (z2 * 4294967296 + z1)
 rw [Nat.mul_comm (2 ^ s)] at h6
 rw [← h6]
set_option maxRecDepth 100000 in
set_option maxHeartbeats 1000000 in
theorem topWord_any (v:Value) (m:List Nat) (n s:Nat) (w:World) (h:Sl w v m) (hn:n≤1000) (hn3:3≤n) (hml:m.length≤n) (hs:s≤31) (htop:m.getD (n - 1) 0 * 2 ^ s < 4294967296) :
  Calls Try.prog 59 #[v,.int .i64 (n:Int),.int .i64 (s:Int)] w fun e w' => e = .returned (.int .u64 ((topW m n s:Nat):Int))∧∃ k,w' = w.drewN k:=by
 have b2:=h.bd.getD (n - 1)
 have b1:=h.bd.getD (n - 2)
 have b0:=h.bd.getD (n - 3)
 have c2:=limbAt_any w h ((n:Int) - 1) (by omega) (by omega)
 have c1:=limbAt_any w h ((n:Int) - 2) (by omega) (by omega)
 have c0:=fun k => limbAt_any (w.drewN k) (h.drewN k) ((n:Int) - 3) (by omega) (by omega)
 rw [show ((n:Int) - 1).toNat = n - 1 by omega] at c2
 rw [show ((n:Int) - 2).toNat = n - 2 by omega] at c1
 rw [show ((n:Int) - 3).toNat = n - 3 by omega] at c0
 unfold topW
 obtain ⟨z2,hz2⟩:∃ z,z = m.getD (n - 1) 0:=⟨_,rfl⟩
 obtain ⟨z1,hz1⟩:∃ z,z = m.getD (n - 2) 0:=⟨_,rfl⟩
 obtain ⟨z0,hz0⟩:∃ z,z = m.getD (n - 3) 0:=⟨_,rfl⟩
 rw [← hz2,← hz1,← hz0]
 rw [← hz2] at c2 b2 htop
 rw [← hz1] at c1 b1
 rw [← hz0] at c0 b0
 have C2:Hid (Calls Try.prog 45 #[v,.int .i64 ((n:Int) - 1)] w fun e w' => e = .returned (.int .u64 (z2:Int))∧w' = w):=c2
 have C1:Hid (Calls Try.prog 45 #[v,.int .i64 ((n:Int) - 2)] w fun e w' => e = .returned (.int .u64 (z1:Int))∧w' = w):=c1
 have C0:Hid (∀ k,Calls Try.prog 45 #[v,.int .i64 ((n:Int) - 3)] (w.drewN k) fun e w' => e = .returned (.int .u64 (z0:Int))∧w' = w.drewN k):=c0
 have hor:=or_low z2 z1 b2 b1
 have HT:Hid (z2 * 2 ^ s < 4294967296):=htop
 clear hz2 hz1 hz0 c2 c1 c0 htop h
 go_enter Try.func59,Try.ntmps59
 go_wp2_with fail
 refine C2.out.mono ?_
 rintro e w9 ⟨rfl,rfl⟩
 go_wp2_with fail
 refine C1.out.mono ?_
 rintro e w9 ⟨rfl,rfl⟩
 go_wp2_with fail
 go_quiet ((go_at_call 45; exact Calls.quiet_of_same (C0.out _)))
 rw [top_or b1 b0 hs HT.out]
 obtain ⟨z,hz⟩:∃ z,z = (z2 * 4294967296 + z1) * 2 ^ s + z0 / 2 ^ (32 - s):=⟨_,rfl⟩
 rw [← hz]
 have HZ:Hid (z = (z2 * 4294967296 + z1) * 2 ^ s + z0 / 2 ^ (32 - s)):=hz
 clear hz
 go_wp2
 go_ret
 exact ⟨ret_u64 (by rw [HZ.out]),nq,rfl⟩
theorem topW_lt {z2 z1 z0 s:Nat} (h1:z1 < 4294967296) (h0:z0 < 4294967296) (hs:s≤31) (ht:z2 * 2 ^ s < 4294967296):(z2 * 4294967296 + z1) * 2 ^ s + z0 / 2 ^ (32 - s) < 18446744073709551616:=by
 have hST:2 ^ s * 2 ^ (32 - s) = 4294967296:=by rw [← Nat.pow_add,show s + (32 - s) = 32 by omega]
 have hT0:0 < 2 ^ (32 - s):=Nat.two_pow_pos _
 have hlow:z0 / 2 ^ (32 - s) < 2 ^ s:=by rw [Nat.div_lt_iff_lt_mul hT0,hST]; exact h0
 have hz2:(z2 + 1) * 2 ^ s≤4294967296:=by
  rw [← hST,Nat.mul_comm (2 ^ s)] at ht ⊢
  exact Nat.mul_le_mul_right _ (Nat.lt_of_mul_lt_mul_right ht)
 have h3:(z2 * 4294967296 + z1 + 1) * 2 ^ s≤((z2 + 1) * 4294967296) * 2 ^ s:=Nat.mul_le_mul_right _ (by omega)
 have h4:((z2 + 1) * 4294967296) * 2 ^ s = ((z2 + 1) * 2 ^ s) * 4294967296:=by rw [Nat.mul_assoc,Nat.mul_comm 4294967296,← Nat.mul_assoc]
 have h5:((z2 + 1) * 2 ^ s) * 4294967296≤4294967296 * 4294967296:=Nat.mul_le_mul_right _ hz2
 rw [Nat.add_mul (z2 * 4294967296 + z1) 1] at h3
 omega
theorem topW_val {m:List Nat} {n s:Nat} (hb:M.Bd m) (hn3:3≤n) (hml:m.length≤n) (hs:s≤31):∃ p,p < 4294967296 ^ (n - 3) * 2 ^ (32 - s)∧M.val m = topW m n s * (4294967296 ^ (n - 3) * 2 ^ (32 - s)) + p:=by
 have e:M.val m = M.val (m.take n):=by rw [List.take_of_length_le hml]
 obtain ⟨i,rfl⟩:∃ i,n = i + 3:=⟨n - 3,by omega⟩
 rw [M.take_succ_getD,M.take_succ_getD,M.take_succ_getD] at e
 simp only [Nat.pow_succ] at e
 unfold topW
 rw [show i + 3 - 1 = i + 2 by omega,show i + 3 - 2 = i + 1 by omega,show i + 3 - 3 = i by omega]
 rw [show i + 1 + 1 = i + 2 by omega] at e
 have hlow:=M.val_lt (hb.take i)
 have hlen:(m.take i).length≤i:=by rw [List.length_take]; omega
 have hlow':M.val (m.take i) < 4294967296 ^ i:=Nat.lt_of_lt_of_le hlow (Nat.pow_le_pow_right (by decide) hlen)
 have hST:4294967296 = 2 ^ s * 2 ^ (32 - s):=by rw [← Nat.pow_add,show s + (32 - s) = 32 by omega]
 have hT0:0 < 2 ^ (32 - s):=Nat.two_pow_pos _
 clear hlow hlen hml hb
 generalize 2 ^ s = S at *
 generalize 2 ^ (32 - s) = T at *
 generalize m.getD (i + 2) 0 = z2 at *
 generalize m.getD (i + 1) 0 = z1 at *
 generalize m.getD i 0 = z0 at *
 generalize M.val (m.take i) = low at *
 generalize 4294967296 ^ i = P at *
 generalize M.val m = X at *
 refine ⟨low + P * (z0 % T),?_,?_⟩
 ·
  have h1:P * (z0 % T + 1)≤P * T:=Nat.mul_le_mul_left _ (Nat.mod_lt _ hT0)
  rw [Nat.mul_add] at h1
  omega
 ·
  have e0:=Nat.div_add_mod z0 T
  generalize z0 / T = d0 at *
  generalize z0 % T = r0 at *
  rw [e,← e0]
  rw [hST]
  clear e e0 hlow' hs hST
  grind
set_option maxRecDepth 100000 in
set_option maxHeartbeats 1000000 in
theorem leading_any (vx vy:Value) (x y:List Nat) (w:World) (hx:Sl w vx x) (hy:Sl w vy y) (hn:x.length≤1000) (hn3:3≤x.length) (hyl:y.length≤x.length) (tx:M.Tr x) (hyx:M.val y≤M.val x) :
  Calls Try.prog 52 #[vx,vy] w fun e w' => (∃ k,w' = w.drewN k)∧∃ a b K:Nat,e = .returned (.tuple #[.int .u64 (a:Int),.int .u64 (b:Int)])∧a < 18446744073709551616∧b≤a∧Leh.Tops a b K (M.val x) (M.val y):=by
 have htx:0 < x.getD (x.length - 1) 0:=by
  rcases tx with h | h <;> omega
 have htb:=hx.bd.getD (x.length - 1)
 have hyt:y.getD (x.length - 1) 0≤x.getD (x.length - 1) 0:=by
  apply Classical.byContradiction
  intro hn
  have h1:M.val y = M.val (y.take x.length):=by rw [List.take_of_length_le hyl]
  have h2:=M.take_drop_val x (x.length - 1) (by omega)
  rw [M.drop_getD x (x.length - 1) (by omega),List.drop_of_length_le (by omega)] at h2
  simp only [M.val,Nat.mul_zero,Nat.add_zero] at h2
  obtain ⟨k,hk⟩:∃ k,x.length = k + 1:=⟨x.length - 1,by omega⟩
  rw [hk,M.take_succ_getD] at h1
  rw [hk,Nat.add_sub_cancel] at h2 hn
  have h3:=M.val_lt (hx.bd.take k)
  rw [List.length_take,Nat.min_eq_left (by omega)] at h3
  have h4:4294967296 ^ k * (x.getD k 0 + 1)≤4294967296 ^ k * y.getD k 0:=Nat.mul_le_mul_left _ (by omega)
  rw [Nat.mul_add] at h4
  omega
 have HX:Hid (Sl w vx x):=hx
 have HY:Hid (Sl w vy y):=hy
 obtain ⟨bdx,aox,capx,rfl,hcx⟩:=hx
 obtain ⟨_,bx,ox,rfl,_,hcx⟩:=hcx (by omega)
 have hck:=hcx (x.length - 1) (by omega)
 obtain ⟨t,ht⟩:∃ t,t = x.getD (x.length - 1) 0:=⟨_,rfl⟩
 rw [← ht] at hck htx htb hyt
 have HT:Hid (t = x.getD (x.length - 1) 0∧y.getD (x.length - 1) 0≤t):=⟨ht,hyt⟩
 obtain ⟨n,hnn⟩:∃ n,n = x.length:=⟨_,rfl⟩
 rw [← hnn] at hck hn hn3 ⊢
 have HN:Hid (n = x.length∧y.length≤n):=⟨hnn,by omega⟩
 have HYX:Hid (M.val y≤M.val x):=hyx
 have bdy:=hy.bd
 clear hcx hy ht hyt hyl tx hyx hnn
 have hn1:1≤n:=by omega
 go_enter Try.func52,Try.ntmps52
 go_wp2_with fail
 refine (lz_any t _ htx htb).mono ?_
 rintro e w0 ⟨rfl,s,rfl,hs,hs1,hs2⟩
 have HS:Hid (t * 2 ^ s < 4294967296):=hs2
 clear hs1 hs2 hck
 go_wp2_with fail
 refine (topWord_any _ x n s _ (by have h9:=HX.out; rw [← HN.out.1] at h9; exact h9) hn hn3 (by rw [HN.out.1]; exact Nat.le_refl _) hs (by have h9:=HT.out.1; rw [← HN.out.1] at h9; rw [← h9]; exact HS.out)).mono ?_
 rintro e w1 ⟨rfl,k1,rfl⟩
 go_wp2_with fail
 refine (topWord_any vy y n s _ (HY.out.drewN k1) hn hn3 HN.out.2 hs (by have h9:=HT.out.2; rw [← HN.out.1] at h9; exact Nat.lt_of_le_of_lt (Nat.mul_le_mul_right _ h9) HS.out)).mono ?_
 rintro e w2 ⟨rfl,k2,rfl⟩
 obtain ⟨p,hp,hpx⟩:=topW_val (s:=s) bdx hn3 (by rw [HN.out.1]; exact Nat.le_refl _) hs
 obtain ⟨q,hq,hqx⟩:=topW_val (s:=s) bdy hn3 HN.out.2 hs
 have hA:topW x n s < 18446744073709551616:=by
  have h1:=HS.out
  have h2:=bdx.getD (n - 2)
  have h3:=bdx.getD (n - 3)
  have h4:=HT.out.1
  rw [← HN.out.1] at h4
  unfold topW
  rw [← h4]
  exact topW_lt h2 h3 hs h1
 obtain ⟨A,hAe⟩:∃ A,A = topW x n s:=⟨_,rfl⟩
 obtain ⟨B,hBe⟩:∃ B,B = topW y n s:=⟨_,rfl⟩
 rw [← hAe] at hpx hA ⊢
 rw [← hBe] at hqx ⊢
 have hBA:B≤A:=by
  apply Classical.byContradiction
  intro hn'
  have h1:=HYX.out
  have h2:(A + 1) * (4294967296 ^ (n - 3) * 2 ^ (32 - s))≤B * (4294967296 ^ (n - 3) * 2 ^ (32 - s)):=Nat.mul_le_mul_right _ (by omega)
  rw [Nat.add_mul] at h2
  omega
 have HF:Hid (A < 18446744073709551616∧B≤A∧Leh.Tops A B (4294967296 ^ (n - 3) * 2 ^ (32 - s)) (M.val x) (M.val y)):=⟨hA,hBA,p,q,hp,hq,hpx,hqx⟩
 clear hA hBA hp hq hpx hqx hAe hBe
 go_wp2
 go_ret2
 exact ⟨⟨k1 + k2,rfl⟩,A,B,_,rfl,HF.out⟩
end Go.Proofs.Ytojbncpifpghgaa

namespace Go.Proofs.Ytojbncpifpghgaa
open Go.RowKit
set_option maxRecDepth 100000 in
set_option maxHeartbeats 1000000 in
theorem wordDivisor_any (a b:Nat) (w:World) (ha:a < 18446744073709551616) (hb:b < 18446744073709551616) :
  Calls Try.prog 57 #[.int .u64 (a:Int),.int .u64 (b:Int)] w fun e w' => e = .returned (.int .u64 ((Nat.gcd a b:Nat):Int))∧∃ k,w' = w.drewN k:=by
 obtain ⟨g,hg⟩:∃ g,g = Nat.gcd a b:=⟨_,rfl⟩
 have HG:Hid (g = Nat.gcd a b):=hg
 rw [← hg]
 clear hg
 go_enter Try.func57,Try.ntmps57
 go_wp2
 go_loopw [0,1] (fun va vb wr => ∃ x y k:Nat,x < 18446744073709551616∧y < 18446744073709551616∧va = .int .u64 (x:Int)∧vb = .int .u64 (y:Int)∧Hid (g = Nat.gcd x y)∧wr = w.drewN k) (fun _ vb _ => (intOf vb).toNat)
 case atStart => exact ⟨a,b,0,ha,hb,rfl,rfl,HG.out,rfl⟩
 case round =>
  obtain ⟨x,y,k,hx,hy,rfl,rfl,hg,rfl⟩:=hrel
  by_cases h0:y = 0
  ·
   subst h0
   go_wp2
   go_ret
   exact ⟨ret_u64 (by rw [hg.out,Nat.gcd_zero_right]),k,rfl⟩
  ·
   have h1:((y:Int) == 0) = false:=by simp; omega
   have h2:¬ (y:Int) = 0:=by omega
   have h3:0 < y:=by omega
   go_wp2
   go_quiet (fail)
   go_wp2
   go_roundw
   case rel =>
    refine ⟨y,x % y,k + nq,hy,Nat.lt_of_le_of_lt (Nat.mod_le x y) hx,rfl,by simp,?_,by rw [World.drewN_drewN]⟩
    show g = _
    rw [hg.out,Nat.gcd_comm y (x % y),Nat.gcd_comm x y,Nat.gcd_rec y x]
   case measure =>
    have:=Nat.mod_lt x h3
    simp [intOf]
    omega
def SureIs (A B:Nat) (e:Ending):Prop:=∃ (a b x0 y0 x1 y1 x2 y2:Nat) (t:Bool),e = .returned (.agg #[.int .u64 (x0:Int),.int .u64 (y0:Int),.int .u64 (x1:Int),.int .u64 (y1:Int),.bool t])∧Leh.St A B a b x0 y0 x1 y1 x2 y2 t
theorem push_modify {α:Type} (a:Array α) (x:α) (f:α→α):(a.push x).modify a.size f = a.push (f x):=by
 apply Array.ext
 ·
  simp
 ·
  intro i h1 h2
  simp only [Array.getElem_modify,Array.getElem_push]
  by_cases h:i < a.size
  ·
   rw [dif_pos h,if_neg (by omega),dif_pos h]
  ·
   rw [dif_neg h,if_pos (by simp at h2; omega),dif_neg h]
theorem set_newest (w:World) (o:Array Value) (T:TypeId) (n b k:Nat) (v:Value) (hb:b = w.heap.size) :
  ((w.alloc (.cells o T)).drewN n).setCell ⟨b,k,none⟩ v = ((w.alloc (.cells (o.setIfInBounds k v) T)).drewN n):=by
 subst hb
 unfold World.setCell World.drewN World.alloc
 simp only [push_modify]
 rfl
set_option maxRecDepth 100000 in
set_option maxHeartbeats 2000000 in
theorem surely_any (A B:Nat) (w:World) (hA:A < 18446744073709551616) (hBA:B≤A) :
  Calls Try.prog 51 #[.int .u64 (A:Int),.int .u64 (B:Int)] w fun e w' => Kept w w'∧SureIs A B e:=by
 go_enter Try.func51,Try.ntmps51
 go_wp2
 go_loopw [0,1,6,7] (fun va vb vx vy wr => ∃ (a b x0 y0 x1 y1 x2 y2 k:Nat) (t:Bool),va = .int .u64 (a:Int)∧vb = .int .u64 (b:Int)∧vx = .int .u64 (x2:Int)∧vy = .int .u64 (y2:Int) ∧
   wr = ((w.alloc (.cells #[.int .u64 0,.int .u64 0,.int .u64 0,.int .u64 0,.bool false] 100)).alloc (.cells #[.int .u64 (x0:Int),.int .u64 (y0:Int),.int .u64 (x1:Int),.int .u64 (y1:Int),.bool t] 100)).drewN k ∧
   Hid (Leh.St A B a b x0 y0 x1 y1 x2 y2 t)) (fun _ vb _ _ _ => (intOf vb).toNat)
 case atStart => exact ⟨A,B,0,0,1,0,0,1,0,false,rfl,rfl,rfl,rfl,rfl,.inl ⟨rfl,rfl,rfl,rfl,rfl,rfl,rfl,rfl,rfl⟩⟩
 case round =>
  obtain ⟨a,b,x0,y0,x1,y1,x2,y2,k,t,rfl,rfl,rfl,rfl,rfl,hst⟩:=hrel
  obtain ⟨hx0,hy0,hx1,hy1,hx2,hy2,hy2',ha,hba,hsum⟩:=Leh.st_bounds hA hBA hst.out
  by_cases hc:y2≤b∧y1 + y2 + b≤a
  ·
   obtain ⟨hc1,hc2⟩:=hc
   have hb0:0 < b:=by omega
   have hb1:¬ (b:Int) = 0:=by omega
   have hb2:((b:Int) == 0) = false:=by simp; omega
   have hon:=Leh.st_next hBA hst.out hc1 hc2
   have hbn:=Leh.st_bounds hA hBA (.inr hon)
   obtain ⟨q,hq⟩:∃ q,q = a / b:=⟨_,rfl⟩
   rw [← hq] at hon hbn
   have hqi:(a:Int) / (b:Int) = (q:Int):=by rw [hq]; rfl
   have hqa:q≤a:=by rw [hq]; exact Nat.div_le_self a b
   have hwq:IntKind.u64.wrap (q:Int) = (q:Int):=by rw [IntKind.wrap_u64]; omega
   obtain ⟨m1,hm1⟩:∃ m,m = q * x2:=⟨_,rfl⟩
   obtain ⟨m2,hm2⟩:∃ m,m = q * y2:=⟨_,rfl⟩
   rw [← hm1,← hm2] at hon hbn
   have hmi1:(q:Int) * (x2:Int) = (m1:Int):=by rw [hm1]; simp
   have hmi2:(q:Int) * (y2:Int) = (m2:Int):=by rw [hm2]; simp
   have hbb:=hbn.2.2.2.2.2.2.1
   have hbx:=hbn.2.2.2.2.1
   have HON:Hid (Leh.On A B b (a % b) x1 y1 x2 y2 (x1 + m1) (y1 + m2) (!t)):=hon
   have hw0:IntKind.u64.wrap ((a:Int) - (b:Int)) = (a:Int) - (b:Int):=by rw [IntKind.wrap_u64]; omega
   have hw1:IntKind.u64.wrap ((y1:Int) + (y2:Int)) = (y1:Int) + (y2:Int):=by rw [IntKind.wrap_u64]; omega
   have hw2:IntKind.u64.wrap (m1:Int) = (m1:Int):=by rw [IntKind.wrap_u64]; omega
   have hw3:IntKind.u64.wrap (m2:Int) = (m2:Int):=by rw [IntKind.wrap_u64]; omega
   have hw4:IntKind.u64.wrap ((x1:Int) + (m1:Int)) = (x1:Int) + (m1:Int):=by rw [IntKind.wrap_u64]; omega
   have hw5:IntKind.u64.wrap ((y1:Int) + (m2:Int)) = (y1:Int) + (m2:Int):=by rw [IntKind.wrap_u64]; omega
   have hcm:(y1:Int) + (y2:Int)≤(a:Int) - (b:Int):=by omega
   clear hon hbn hq hm1 hm2 hsum hbb hbx hx0 hy0 hx2
   have hrm:(a:Int) % (b:Int) = ((a % b:Nat):Int):=by simp
   have hrm2:a % b < b:=Nat.mod_lt _ hb0
   obtain ⟨rm,hrme⟩:∃ rm,rm = a % b:=⟨_,rfl⟩
   rw [← hrme] at hrm hrm2
   have HRM:Hid (rm = a % b):=hrme
   have hwr:IntKind.u64.wrap (rm:Int) = (rm:Int):=by rw [IntKind.wrap_u64]; omega
   clear hrme
   go_wp2
   go_quiet (fail)
   go_wp2
   go_roundw
   case rel =>
    have h9:=HON.out
    rw [← HRM.out] at h9
    refine ⟨b,rm,x1,y1,x2,y2,x1 + m1,y1 + m2,k + nq,!t,rfl,by first | rfl | (simp; exact hrm),by simp,by simp,?_,.inr h9⟩
    rw [set_newest _ _ _ _ _ _ _ (by simp),set_newest _ _ _ _ _ _ _ (by simp),set_newest _ _ _ _ _ _ _ (by simp),set_newest _ _ _ _ _ _ _ (by simp),set_newest _ _ _ _ _ _ _ (by simp)]
    rfl
   case measure => simp [intOf]; omega
  ·
   have HC:Hid (Leh.St A B a b x0 y0 x1 y1 x2 y2 t):=hst.out
   have fin:∀ W:World,W = W→True:=fun _ _ => trivial
   by_cases hc1:y2≤b
   ·
    have hc2:¬ (y1:Int) + (y2:Int)≤(a:Int) - (b:Int):=by omega
    have hw0:IntKind.u64.wrap ((a:Int) - (b:Int)) = (a:Int) - (b:Int):=by rw [IntKind.wrap_u64]; omega
    have hw1:IntKind.u64.wrap ((y1:Int) + (y2:Int)) = (y1:Int) + (y2:Int):=by rw [IntKind.wrap_u64]; have:=hsum (by omega); omega
    clear hc fin hsum
    go_wp2
    exact bodyPost_ret (v:=.agg #[.int .u64 (x0:Int),.int .u64 (y0:Int),.int .u64 (x1:Int),.int .u64 (y1:Int),.bool t]) (by simp [results,Try.results51,go_sem]) rfl ⟨(((((((((Kept.refl w).alloc _).alloc _).drewN k).setCell (Nat.le_refl _) _).setCell (Nat.le_refl _) _).setCell (Nat.le_refl _) _).setCell (Nat.le_refl _) _).setCell (Nat.le_refl _) _),a,b,x0,y0,x1,y1,x2,y2,t,rfl,HC.out⟩
   ·
    clear hc fin hsum
    go_wp2
    exact bodyPost_ret (v:=.agg #[.int .u64 (x0:Int),.int .u64 (y0:Int),.int .u64 (x1:Int),.int .u64 (y1:Int),.bool t]) (by simp [results,Try.results51,go_sem]) rfl ⟨(((((((((Kept.refl w).alloc _).alloc _).drewN k).setCell (Nat.le_refl _) _).setCell (Nat.le_refl _) _).setCell (Nat.le_refl _) _).setCell (Nat.le_refl _) _).setCell (Nat.le_refl _) _),a,b,x0,y0,x1,y1,x2,y2,t,rfl,HC.out⟩
end Go.Proofs.Ytojbncpifpghgaa

namespace Go.Proofs.Ytojbncpifpghgaa
open Go.RowKit
set_option maxHeartbeats 1000000 in
theorem some_any (x0 y0 x1 y1:Nat) (t:Bool) (w:World) :
  Calls Try.prog 53 #[.agg #[.int .u64 (x0:Int),.int .u64 (y0:Int),.int .u64 (x1:Int),.int .u64 (y1:Int),.bool t]] w fun e w' => Kept w w'∧e = .returned (.bool (decide (y0 ≠ 0))):=by
 by_cases h:y0 = 0
 ·
  subst h
  go_enter Try.func53,Try.ntmps53
  go_wp2
  go_ret
  exact ⟨(Kept.refl w).alloc _,by simp⟩
 ·
  have h1:((y0:Int) == 0) = false:=by simp; omega
  have h2:decide (y0 ≠ 0) = true:=by simp [h]
  rw [h2]
  go_enter Try.func53,Try.ntmps53
  go_wp2
  go_ret
  exact ⟨(Kept.refl w).alloc _,by simp; exact h⟩
def AppIs (B:Nat) (w':World) (e:Ending) (N0 N1 n:Nat):Prop :=
 ∃ v0 l0 v1 l1,e = .returned (.tuple #[v0,v1])∧New B w' v0 l0∧New B w' v1 l1∧M.Tr l0∧M.Tr l1∧M.val l0 = N0∧M.val l1 = N1∧l0.length≤n∧l1.length≤n
theorem box5_kept {w w1:World} {c0 c1 c2 c3 c4:Value} {t:TypeId} (h:Kept (w.alloc (.cells #[c0,c1,c2,c3,c4] t)) w1) :
  w1.cell? ⟨w.heap.size,0,none⟩ = some c0∧w1.cell? ⟨w.heap.size,1,none⟩ = some c1∧w1.cell? ⟨w.heap.size,2,none⟩ = some c2∧w1.cell? ⟨w.heap.size,3,none⟩ = some c3∧w1.cell? ⟨w.heap.size,4,none⟩ = some c4:=by
 refine ⟨?_,?_,?_,?_,?_⟩ <;> (rw [h.cells _ _ (by simp),World.cell?_alloc_at _ _ _ _ (by simp)]; rfl)
set_option maxRecDepth 100000 in
set_option maxHeartbeats 2000000 in
theorem apply_turned (vx vy:Value) (x y:List Nat) (x0 y0 x1 y1 N0 N1 n:Nat) (w:World) (hx:Sl w vx x) (hy:Sl w vy y) (hn:x.length = n) (hn2:n≤900) (hyl:y.length≤n)
  (b0:x0 < 4294967296) (b1:y0 < 4294967296) (b2:x1 < 4294967296) (b3:y1 < 4294967296) (h0:y0 * M.val y + N0 = x0 * M.val x) (h1:x1 * M.val x + N1 = y1 * M.val y) (hN0:N0 < 4294967296 ^ n) (hN1:N1 < 4294967296 ^ n) :
  Calls Try.prog 54 #[.agg #[.int .u64 (x0:Int),.int .u64 (y0:Int),.int .u64 (x1:Int),.int .u64 (y1:Int),.bool true],vx,vy] w fun e w' => Kept w w'∧AppIs w.heap.size w' e N0 N1 n:=by
 have HX:Hid (Sl w vx x):=hx
 have HY:Hid (Sl w vy y):=hy
 obtain ⟨_,aox,capx,rfl,_⟩:=hx
 obtain ⟨_,aoy,capy,rfl,_⟩:=hy
 have HE:Hid ((y0 * M.val y + N0 = x0 * M.val x)∧(x1 * M.val x + N1 = y1 * M.val y)∧N0 < 4294967296 ^ n∧N1 < 4294967296 ^ n):=⟨h0,h1,hN0,hN1⟩
 rw [hn]
 have HN:Hid (x.length = n∧y.length≤n):=⟨hn,hyl⟩
 rw [hn] at HX
 clear h0 h1 hN0 hN1 hn hyl
 have K1:∀ z,Kept w (w.alloc z).drew:=fun z => ((Kept.refl w).alloc z).drew
 go_enter Try.func54,Try.ntmps54
 go_wp2_with fail
 go_region_held3 (fun w' => w'.cell? ⟨w.heap.size,0,none⟩ = some (.int .u64 (x0:Int))∧w'.cell? ⟨w.heap.size,1,none⟩ = some (.int .u64 (y0:Int))∧w'.cell? ⟨w.heap.size,2,none⟩ = some (.int .u64 (x1:Int))∧w'.cell? ⟨w.heap.size,3,none⟩ = some (.int .u64 (y1:Int))) (go_keep) (first
  | (go_at_call_of 60 (Value.int IntKind.u64 (x0:Int)); refine (blend_any n _ _ x y x0 y0 _ ?_ ?_ (by omega) (by have:=HN.out; omega) (by have:=HN.out; omega) (by assumption) (by assumption) (by have:=HE.out; omega) (by have:=HE.out; omega)).mono ?_; exact HX.out.kept (K1 _); exact HY.out.kept (K1 _); rintro e w3 ⟨hk3,v0,l0,rfl,hn0,ht0,hv0,hl0⟩; obtain ⟨hb0,hb1,hb2,hb3,hb4⟩:=box5_kept ((Kept.refl _).drew.trans hk3))
  | (go_at_call_of 60 (Value.int IntKind.u64 (y1:Int)); refine (blend_any n _ _ y x y1 x1 _ ?_ ?_ (by omega) (by have:=HN.out; omega) (by have:=HN.out; omega) (by assumption) (by assumption) (by have:=HE.out; omega) (by have:=HE.out; omega)).mono ?_; exact HY.out.kept ((K1 _).trans hk3); exact HX.out.kept ((K1 _).trans hk3); rintro e w4 ⟨hk4,v1,l1,rfl,hn1,ht1,hv1,hl1⟩; obtain ⟨hb5,hb6,hb7,hb8,hb9⟩:=box5_kept ((Kept.refl _).drew.trans (hk3.trans hk4))))
 have HF:Hid (Kept w w4∧New w.heap.size w4 v0 l0∧New w.heap.size w4 v1 l1∧M.Tr l0∧M.Tr l1∧M.val l0 = N0∧M.val l1 = N1∧l0.length≤n∧l1.length≤n):=by
  have hs:=hk3.size
  refine ⟨((K1 _).trans hk3).trans hk4,(hn0.kept hk4).mono (by simp),hn1.mono (by have:=((K1 (.cells #[] 0)).size); simp at hs; omega),ht0,ht1,?_,?_,hl0,hl1⟩
  ·
   rw [hv0]; have:=HE.out; omega
  ·
   rw [hv1]; have:=HE.out; omega
 clear hk3 hk4 hn0 hn1 ht0 ht1 hv0 hv1 hl0 hl1 hb0 hb1 hb2 hb3 hb4 hb5 hb6 hb7 hb8 hb9
 go_wp2
 go_ret2
 exact ⟨HF.out.1,v0,l0,v1,l1,rfl,HF.out.2⟩
set_option maxRecDepth 100000 in
set_option maxHeartbeats 2000000 in
theorem apply_plain (vx vy:Value) (x y:List Nat) (x0 y0 x1 y1 N0 N1 n:Nat) (w:World) (hx:Sl w vx x) (hy:Sl w vy y) (hn:x.length = n) (hn2:n≤900) (hyl:y.length≤n)
  (b0:x0 < 4294967296) (b1:y0 < 4294967296) (b2:x1 < 4294967296) (b3:y1 < 4294967296) (h0:x0 * M.val x + N0 = y0 * M.val y) (h1:y1 * M.val y + N1 = x1 * M.val x) (hN0:N0 < 4294967296 ^ n) (hN1:N1 < 4294967296 ^ n) :
  Calls Try.prog 54 #[.agg #[.int .u64 (x0:Int),.int .u64 (y0:Int),.int .u64 (x1:Int),.int .u64 (y1:Int),.bool false],vx,vy] w fun e w' => Kept w w'∧AppIs w.heap.size w' e N0 N1 n:=by
 have HX:Hid (Sl w vx x):=hx
 have HY:Hid (Sl w vy y):=hy
 obtain ⟨_,aox,capx,rfl,_⟩:=hx
 obtain ⟨_,aoy,capy,rfl,_⟩:=hy
 have HE:Hid ((x0 * M.val x + N0 = y0 * M.val y)∧(y1 * M.val y + N1 = x1 * M.val x)∧N0 < 4294967296 ^ n∧N1 < 4294967296 ^ n):=⟨h0,h1,hN0,hN1⟩
 rw [hn]
 have HN:Hid (x.length = n∧y.length≤n):=⟨hn,hyl⟩
 rw [hn] at HX
 clear h0 h1 hN0 hN1 hn hyl
 have K1:∀ z,Kept w (w.alloc z).drew:=fun z => ((Kept.refl w).alloc z).drew
 go_enter Try.func54,Try.ntmps54
 go_wp2_with fail
 go_region_held3 (fun w' => w'.cell? ⟨w.heap.size,0,none⟩ = some (.int .u64 (x0:Int))∧w'.cell? ⟨w.heap.size,1,none⟩ = some (.int .u64 (y0:Int))∧w'.cell? ⟨w.heap.size,2,none⟩ = some (.int .u64 (x1:Int))∧w'.cell? ⟨w.heap.size,3,none⟩ = some (.int .u64 (y1:Int))) (go_keep) (first
  | (go_at_call_of 60 (Value.int IntKind.u64 (y0:Int)); refine (blend_any n _ _ y x y0 x0 _ ?_ ?_ (by omega) (by have:=HN.out; omega) (by have:=HN.out; omega) (by assumption) (by assumption) (by have:=HE.out; omega) (by have:=HE.out; omega)).mono ?_; exact HY.out.kept (K1 _); exact HX.out.kept (K1 _); rintro e w3 ⟨hk3,v0,l0,rfl,hn0,ht0,hv0,hl0⟩; obtain ⟨hb0,hb1,hb2,hb3,hb4⟩:=box5_kept ((Kept.refl _).drew.trans hk3))
  | (go_at_call_of 60 (Value.int IntKind.u64 (x1:Int)); refine (blend_any n _ _ x y x1 y1 _ ?_ ?_ (by omega) (by have:=HN.out; omega) (by have:=HN.out; omega) (by assumption) (by assumption) (by have:=HE.out; omega) (by have:=HE.out; omega)).mono ?_; exact HX.out.kept ((K1 _).trans hk3); exact HY.out.kept ((K1 _).trans hk3); rintro e w4 ⟨hk4,v1,l1,rfl,hn1,ht1,hv1,hl1⟩; obtain ⟨hb5,hb6,hb7,hb8,hb9⟩:=box5_kept ((Kept.refl _).drew.trans (hk3.trans hk4))))
 have HF:Hid (Kept w w4∧New w.heap.size w4 v0 l0∧New w.heap.size w4 v1 l1∧M.Tr l0∧M.Tr l1∧M.val l0 = N0∧M.val l1 = N1∧l0.length≤n∧l1.length≤n):=by
  have hs:=hk3.size
  refine ⟨((K1 _).trans hk3).trans hk4,(hn0.kept hk4).mono (by simp),hn1.mono (by have:=((K1 (.cells #[] 0)).size); simp at hs; omega),ht0,ht1,?_,?_,hl0,hl1⟩
  ·
   rw [hv0]; have:=HE.out; omega
  ·
   rw [hv1]; have:=HE.out; omega
 clear hk3 hk4 hn0 hn1 ht0 ht1 hv0 hv1 hl0 hl1 hb0 hb1 hb2 hb3 hb4 hb5 hb6 hb7 hb8 hb9
 go_wp2
 go_ret2
 exact ⟨HF.out.1,v0,l0,v1,l1,rfl,HF.out.2⟩
end Go.Proofs.Ytojbncpifpghgaa

namespace Go.Proofs.Ytojbncpifpghgaa
open Go.RowKit
def rdv (w:World):Value→Nat
 | .slice (some a) n _ => M.val ((List.range n).map (fun j => match w.cell? ⟨a.block,a.off + j,none⟩ with | some (.int _ x) => x.toNat | _ => 0))
 | _ => 0
theorem rdv_of {w:World} {v:Value} {l:List Nat} (h:Sl w v l):rdv w v = M.val l:=by
 obtain ⟨hb,ao,cap,rfl,hx⟩:=h
 cases ao with
 | none =>
  by_cases h0:0 < l.length
  ·
   obtain ⟨_,b,off,e,_⟩:=hx h0
   cases e
  ·
   have h1:l = []:=List.length_eq_zero_iff.1 (by omega)
   subst h1; rfl
 | some ad =>
  by_cases h0:0 < l.length
  ·
   obtain ⟨_,b,off,e,_,hc⟩:=hx h0
   cases e
   show M.val ((List.range l.length).map (fun j => match w.cell? ⟨b,off + j,none⟩ with | some (.int _ x) => x.toNat | _ => 0)) = M.val l
   congr 1
   apply List.ext_getElem (by simp)
   intro j h1 h2
   simp only [List.getElem_map,List.getElem_range]
   rw [hc j h2]
   simp [List.getD_eq_getElem?_getD,List.getElem?_eq_getElem h2]
  ·
   have h1:l = []:=List.length_eq_zero_iff.1 (by omega)
   subst h1; rfl
def DvrIs (B:Nat) (w':World) (e:Ending) (g:Nat):Prop:=∃ v l,e = .returned v∧New B w' v l∧M.Tr l∧M.val l = g
theorem New.slice {B:Nat} {w:World} {v:Value} {l:List Nat} (h:New B w v l):∃ ao cap,v = .slice ao l.length cap:=h.shape
set_option maxRecDepth 100000 in
set_option maxHeartbeats 4000000 in
theorem divisor_ge (va vb:Value) (a b:List Nat) (w:World) (ha:Sl w va a) (hb:Sl w vb b) (hla:a.length≤900) (hlb:b.length≤900) (ta:M.Tr a) (tb:M.Tr b) (hle:M.val b≤M.val a) :
  Calls Try.prog 48 #[va,vb] w fun e w' => Kept w w'∧DvrIs w.heap.size w' e (Nat.gcd (M.val a) (M.val b)):=by
 have HA:Hid (Sl w va a):=ha
 have HB:Hid (Sl w vb b):=hb
 have HT:Hid (M.Tr a∧M.Tr b∧M.val b≤M.val a):=⟨ta,tb,by omega⟩
 have HSG:Hid (M.val b≤M.val a):=hle
 obtain ⟨g,hg⟩:∃ g,g = Nat.gcd (M.val a) (M.val b):=⟨_,rfl⟩
 have HG:Hid (g = Nat.gcd (M.val a) (M.val b)):=by rw [hg]; rfl
 rw [← hg]
 clear ha hb ta tb hle hg
 go_enter Try.func48,Try.ntmps48
 go_wp2_with fail
 refine (compare_any va vb a b _ HA.out HB.out (by omega) (by omega) HT.out.1 HT.out.2.1).mono ?_
 rintro e w0 ⟨rfl,nq,rfl⟩
 have hs:0≤sgn (M.val a) (M.val b):=by unfold sgn; have:=HSG.out; split <;> omega
 generalize sgn (M.val a) (M.val b) = sg at *
 go_wp2_with fail
 refine (dup_any _ (HA.out.kept ((Kept.refl w).drewN nq)) (by omega)).mono ?_
 rintro e w1 ⟨hk1,vx,rfl,hn1⟩
 have HK1:Hid (Kept w w1∧New w.heap.size w1 vx a):=⟨((Kept.refl w).drewN nq).trans hk1,hn1⟩
 clear hk1 hn1
 go_wp2_with fail
 refine (dup_any _ (HB.out.kept HK1.out.1) (by omega)).mono ?_
 rintro e w2 ⟨hk2,vy,rfl,hn2⟩
 have HK2:Hid (Kept w w2∧New w.heap.size w2 vx a∧New w.heap.size w2 vy b):=⟨HK1.out.1.trans hk2,HK1.out.2.kept hk2,hn2.mono HK1.out.1.size⟩
 clear hk2 hn2 HK1
 go_wp2
 go_loopw [5,6] (fun ux uy wr => ∃ (x y:List Nat) (aox aoy:Option Addr) (nx ny capx capy:Nat),ux = .slice aox nx capx∧uy = .slice aoy ny capy∧nx≤900∧ny≤nx ∧
   Hid (nx = x.length∧ny = y.length∧New w.heap.size wr (.slice aox nx capx) x∧New w.heap.size wr (.slice aoy ny capy) y∧M.Tr x∧M.Tr y∧M.val y≤M.val x∧g = Nat.gcd (M.val x) (M.val y)∧Kept w wr)) (fun ux uy wr => rdv wr ux + rdv wr uy)
 case atStart =>
  obtain ⟨aox,capx,rfl⟩:=HK2.out.2.1.shape
  obtain ⟨aoy,capy,rfl⟩:=HK2.out.2.2.shape
  exact ⟨a,b,aox,aoy,a.length,b.length,capx,capy,rfl,rfl,hla,M.len_le_of_val_le HT.out.2.1 HK2.out.2.1.1 HT.out.2.2,rfl,rfl,HK2.out.2.1,HK2.out.2.2,HT.out.1,HT.out.2.1,HT.out.2.2,HG.out,HK2.out.1⟩
 case round =>
  obtain ⟨x,y,aox,aoy,nx,ny,capx,capy,rfl,rfl,hnx,hny,hr⟩:=hrel
  by_cases h2:2 < ny
  ·
   go_wp2_with fail
   obtain ⟨e1,e2,hNx,hNy,tx,ty,hyx,hg,hk⟩:=hr.out
   refine (leading_any _ _ x y _ hNx.sl hNy.sl (by omega) (by omega) (by omega) tx hyx).mono ?_
   rintro e w3 ⟨⟨k3,rfl⟩,A,B,K,rfl,hA,hBA,hT⟩
   have HTT:Hid (Leh.Tops A B K (M.val x) (M.val y)):=hT
   clear e1 e2 hNx hNy tx ty hyx hg hk hT
   go_wp2_with fail
   refine (surely_any A B _ hA hBA).mono ?_
   rintro e w4 ⟨hk4,aa,bb,x0,y0,x1,y1,x2,y2,t,rfl,hst⟩
   have HST:Hid (Leh.St A B aa bb x0 y0 x1 y1 x2 y2 t∧Kept wr w4):=⟨hst,((Kept.refl wr).drewN k3).trans hk4⟩
   clear hst hk4
   go_wp2_with fail
   refine (some_any x0 y0 x1 y1 t _).mono ?_
   rintro e w5 ⟨hk5,rfl⟩
   have hc5:=box5_kept hk5
   have HK5:Hid (Kept wr w5):=(HST.out.2.alloc _).trans hk5
   clear hk5
   by_cases hy0:y0 = 0
   ·
    have hd:decide (y0 ≠ 0) = false:=by simp [hy0]
    rw [hd]
    clear hc5
    go_wp2_with fail
    obtain ⟨e1,e2,hNx,hNy,tx,ty,hyx,hg,hk⟩:=hr.out
    refine (divide_any _ _ x y _ (hNx.sl.kept HK5.out) (hNy.sl.kept HK5.out) (by omega) (by omega) tx ty (by omega)).mono ?_
    rintro e w6 ⟨hk6,vq,q,vr,r,rfl,hnq,hnr,htq,htr,hlq,hval,hlt⟩
    obtain ⟨ar,cr,rfl⟩:=hnr.shape
    have hlr:r.length≤ny:=by rw [e2]; exact M.len_le_of_val_le htr hNy.1 (Nat.le_of_lt hlt)
    have HF:Hid (ny = y.length∧New w.heap.size w6 (.slice aoy ny capy) y∧New w.heap.size w6 (.slice ar r.length cr) r∧M.Tr y∧M.Tr r∧M.val r < M.val y∧g = Nat.gcd (M.val y) (M.val r)∧Kept w w6):=by
     refine ⟨e2,(hNy.kept HK5.out).kept hk6,hnr.mono (hk.trans HK5.out).size,ty,htr,hlt,?_,(hk.trans HK5.out).trans hk6⟩
     rw [hg,Nat.gcd_comm,Nat.gcd_rec,hval,Nat.mul_comm,Nat.mul_add_mod,Nat.mod_eq_of_lt hlt,Nat.gcd_comm]
    have HM:Hid (rdv wr (.slice aox nx capx) = M.val x∧rdv wr (.slice aoy ny capy) = M.val y∧M.val y≤M.val x):=⟨rdv_of hNx.sl,rdv_of hNy.sl,hyx⟩
    have hny9:ny≤900:=by omega
    clear e1 e2 hNx hNy tx ty hyx hg hk hk6 hnq hnr htq htr hlq hval hlt
    go_wp2
    go_roundw
    case rel => exact ⟨y,r,aoy,ar,ny,r.length,capy,cr,rfl,rfl,hny9,hlr,HF.out.1,rfl,HF.out.2.1,HF.out.2.2.1,HF.out.2.2.2.1,HF.out.2.2.2.2.1,Nat.le_of_lt HF.out.2.2.2.2.2.1,HF.out.2.2.2.2.2.2.1,HF.out.2.2.2.2.2.2.2⟩
    case measure =>
     have h1:=rdv_of HF.out.2.1.sl
     have h2:=rdv_of HF.out.2.2.1.sl
     have h3:=HM.out
     have h4:=HF.out.2.2.2.2.2.1
     show rdv w6 (.slice aoy ny capy) + rdv w6 (.slice ar r.length cr) < rdv wr (.slice aox nx capx) + rdv wr (.slice aoy ny capy)
     omega
   ·
    have hd:decide (y0 ≠ 0) = true:=by simp [hy0]
    rw [hd]
    obtain ⟨hc50,hc51,hc52,hc53,hc54⟩:=hc5
    go_wp2_with fail
    obtain ⟨e1,e2,hNx,hNy,tx,ty,hyx,hg,hk⟩:=hr.out
    obtain ⟨N0,N1,hN0,hN1,h10,h0Y,hsum,hgcd⟩:=Leh.st_done HST.out.1 hy0 HTT.out
    obtain ⟨c0,c1,c2,c3,_⟩:=Leh.st_bounds hA hBA HST.out.1
    have hX:=M.val_lt hNx.1
    rw [← e1] at hX
    have hC:Calls Try.prog 54 #[.agg #[.int .u64 (x0:Int),.int .u64 (y0:Int),.int .u64 (x1:Int),.int .u64 (y1:Int),.bool t],.slice aox nx capx,.slice aoy ny capy] w5 fun e w' => Kept w5 w'∧AppIs w5.heap.size w' e N0 N1 nx:=by
     cases t with
     | true =>
      refine apply_turned _ _ x y x0 y0 x1 y1 N0 N1 nx w5 (hNx.sl.kept HK5.out) (hNy.sl.kept HK5.out) e1.symm hnx (by omega) c0 c1 c2 c3 ?_ ?_ (by omega) (by omega)
      ·
       unfold Leh.e0 Leh.sg at hN0; simp only [if_true] at hN0
       have:((y0 * M.val y + N0:Nat):Int) = ((x0 * M.val x:Nat):Int):=by push_cast; omega
       exact_mod_cast this
      ·
       unfold Leh.e1 Leh.sg at hN1; simp only [if_true] at hN1
       have:((x1 * M.val x + N1:Nat):Int) = ((y1 * M.val y:Nat):Int):=by push_cast; omega
       exact_mod_cast this
     | false =>
      refine apply_plain _ _ x y x0 y0 x1 y1 N0 N1 nx w5 (hNx.sl.kept HK5.out) (hNy.sl.kept HK5.out) e1.symm hnx (by omega) c0 c1 c2 c3 ?_ ?_ (by omega) (by omega)
      ·
       unfold Leh.e0 Leh.sg at hN0; simp at hN0
       have:((x0 * M.val x + N0:Nat):Int) = ((y0 * M.val y:Nat):Int):=by push_cast; omega
       exact_mod_cast this
      ·
       unfold Leh.e1 Leh.sg at hN1; simp at hN1
       have:((y1 * M.val y + N1:Nat):Int) = ((x1 * M.val x:Nat):Int):=by push_cast; omega
       exact_mod_cast this
    refine hC.mono ?_
    rintro e w6 ⟨hk6,v0,l0,v1,l1,rfl,hn0,hn1,t0,t1,hv0,hv1,hl0,hl1⟩
    obtain ⟨a0,cc0,rfl⟩:=hn0.shape
    obtain ⟨a1,cc1,rfl⟩:=hn1.shape
    have hll:l1.length≤l0.length:=M.len_le_of_val_le t1 hn0.1 (by omega)
    have HF:Hid (New w.heap.size w6 (.slice a0 l0.length cc0) l0∧New w.heap.size w6 (.slice a1 l1.length cc1) l1∧M.Tr l0∧M.Tr l1∧M.val l1≤M.val l0∧g = Nat.gcd (M.val l0) (M.val l1)∧Kept w w6∧M.val l0 + M.val l1 < M.val x + M.val y):=by
     have hsz:=(hk.trans HK5.out).size
     refine ⟨hn0.mono hsz,hn1.mono hsz,t0,t1,by omega,?_,(hk.trans HK5.out).trans hk6,by omega⟩
     rw [hg,hv0,hv1,hgcd]
    have HM:Hid (rdv wr (.slice aox nx capx) = M.val x∧rdv wr (.slice aoy ny capy) = M.val y):=⟨rdv_of hNx.sl,rdv_of hNy.sl⟩
    have hl9:l0.length≤900:=by omega
    clear e1 e2 hNx hNy tx ty hyx hg hk hk6 hn0 hn1 t0 t1 hv0 hv1 hl0 hl1 hC hX hN0 hN1 h10 h0Y hsum hgcd hc50 hc51 hc52 hc53 hc54
    go_wp2
    go_roundw
    case rel => exact ⟨l0,l1,a0,a1,l0.length,l1.length,cc0,cc1,rfl,rfl,hl9,hll,rfl,rfl,HF.out.1,HF.out.2.1,HF.out.2.2.1,HF.out.2.2.2.1,HF.out.2.2.2.2.1,HF.out.2.2.2.2.2.1,HF.out.2.2.2.2.2.2.1⟩
    case measure =>
     have h1:=rdv_of HF.out.1.sl
     have h2:=rdv_of HF.out.2.1.sl
     have h3:=HM.out
     have h4:=HF.out.2.2.2.2.2.2.2
     show rdv w6 (.slice a0 l0.length cc0) + rdv w6 (.slice a1 l1.length cc1) < rdv wr (.slice aox nx capx) + rdv wr (.slice aoy ny capy)
     omega
  ·
   by_cases h0:ny = 0
   ·
    subst h0
    have HF:Hid (Kept w wr∧New w.heap.size wr (.slice aox nx capx) x∧M.Tr x∧M.val x = g):=by
     obtain ⟨e1,e2,hNx,hNy,tx,ty,hyx,hg,hk⟩:=hr.out
     have:y = []:=List.length_eq_zero_iff.1 e2.symm
     subst this
     exact ⟨hk,hNx,tx,by rw [hg]; simp [M.val]⟩
    clear hr
    go_wp2
    go_ret
    exact ⟨HF.out.1,_,x,rfl,HF.out.2.1,HF.out.2.2.1,HF.out.2.2.2⟩
   ·
    have hz:((ny:Int) == 0) = false:=by simp; omega
    go_wp2_with fail
    obtain ⟨e1,e2,hNx,hNy,tx,ty,hyx,hg,hk⟩:=hr.out
    refine (divide_any _ _ x y _ hNx.sl hNy.sl (by omega) (by omega) tx ty (by omega)).mono ?_
    rintro e w6 ⟨hk6,vq,q,vr,r,rfl,hnq,hnr,htq,htr,hlq,hval,hlt⟩
    have hlr:r.length≤ny:=by rw [e2]; exact M.len_le_of_val_le htr hNy.1 (Nat.le_of_lt hlt)
    have hyb:M.val y < 18446744073709551616:=by
     have h9:=M.val_lt hNy.1
     rw [← e2] at h9
     have h8:4294967296 ^ ny≤4294967296 ^ 2:=Nat.pow_le_pow_right (by decide) (by omega)
     have h7:4294967296 ^ 2 = 18446744073709551616:=by decide
     omega
    have HF:Hid (y.length≤2∧r.length≤2∧Sl w6 (.slice aoy ny capy) y∧Sl w6 vr r∧M.val r < M.val y∧g = Nat.gcd (M.val y) (M.val r)∧Kept w w6):=by
     refine ⟨by omega,by omega,(hNy.kept hk6).sl,hnr.sl,hlt,?_,hk.trans hk6⟩
     rw [hg,Nat.gcd_comm,Nat.gcd_rec,hval,Nat.mul_comm,Nat.mul_add_mod,Nat.mod_eq_of_lt hlt,Nat.gcd_comm]
    have hrb:M.val r < 18446744073709551616:=by omega
    clear e1 e2 hNx hNy tx ty hyx hg hk hk6 hnq hnr htq htr hlq hval hlt hr hlr
    go_wp2_with fail
    refine (toWord_any _ HF.out.2.2.1 HF.out.1).mono ?_
    rintro e w7 ⟨hk7,rfl⟩
    have HK7:Hid (Kept w6 w7):=hk7
    clear hk7
    go_wp2_with fail
    refine (toWord_any _ (HF.out.2.2.2.1.kept HK7.out) HF.out.2.1).mono ?_
    rintro e w8 ⟨hk8,rfl⟩
    have HK8:Hid (Kept w6 w8):=HK7.out.trans hk8
    clear hk8
    go_wp2_with fail
    refine (wordDivisor_any (M.val y) (M.val r) _ hyb hrb).mono ?_
    rintro e w9 ⟨rfl,k9,rfl⟩
    have hgb:Nat.gcd (M.val y) (M.val r) < 18446744073709551616:=Nat.lt_of_le_of_lt (Nat.gcd_le_left _ (by have:=HF.out.2.2.2.2.1; omega)) hyb
    go_wp2_with fail
    refine (fromWord_any _ _ hgb).mono ?_
    rintro e w10 ⟨hk10,v',l',rfl,hn',ht',hv',hl'⟩
    have hk8:Kept w w8:=HF.out.2.2.2.2.2.2.trans HK8.out
    have HE:Hid (Kept w w10∧New w.heap.size w10 v' l'∧M.Tr l'∧M.val l' = g):=by
     refine ⟨(hk8.drewN k9).trans hk10,hn'.mono (hk8.drewN k9).size,ht',?_⟩
     rw [hv',HF.out.2.2.2.2.2.1]
    clear hk10 hn' ht' hv' hl' hgb hyb hrb hk8
    go_wp2
    go_ret
    exact ⟨HE.out.1,v',l',rfl,HE.out.2⟩
set_option maxRecDepth 100000 in
set_option maxHeartbeats 4000000 in
theorem divisor_lt (va vb:Value) (a b:List Nat) (w:World) (ha:Sl w va a) (hb:Sl w vb b) (hla:a.length≤900) (hlb:b.length≤900) (ta:M.Tr a) (tb:M.Tr b) (hle:M.val a < M.val b) :
  Calls Try.prog 48 #[va,vb] w fun e w' => Kept w w'∧DvrIs w.heap.size w' e (Nat.gcd (M.val a) (M.val b)):=by
 have HA:Hid (Sl w va a):=ha
 have HB:Hid (Sl w vb b):=hb
 have HT:Hid (M.Tr b∧M.Tr a∧M.val a≤M.val b):=⟨tb,ta,by omega⟩
 have HSG:Hid (M.val a < M.val b):=hle
 obtain ⟨g,hg⟩:∃ g,g = Nat.gcd (M.val a) (M.val b):=⟨_,rfl⟩
 have HG:Hid (g = Nat.gcd (M.val b) (M.val a)):=by rw [hg]; exact Nat.gcd_comm _ _
 rw [← hg]
 clear ha hb ta tb hle hg
 go_enter Try.func48,Try.ntmps48
 go_wp2_with fail
 refine (compare_any va vb a b _ HA.out HB.out (by omega) (by omega) HT.out.2.1 HT.out.1).mono ?_
 rintro e w0 ⟨rfl,nq,rfl⟩
 have hs:sgn (M.val a) (M.val b) < 0:=by unfold sgn; have:=HSG.out; split <;> omega
 generalize sgn (M.val a) (M.val b) = sg at *
 go_wp2_with fail
 refine (dup_any _ (HB.out.kept ((Kept.refl w).drewN nq)) (by omega)).mono ?_
 rintro e w1 ⟨hk1,vx,rfl,hn1⟩
 have HK1:Hid (Kept w w1∧New w.heap.size w1 vx b):=⟨((Kept.refl w).drewN nq).trans hk1,hn1⟩
 clear hk1 hn1
 go_wp2_with fail
 refine (dup_any _ (HA.out.kept HK1.out.1) (by omega)).mono ?_
 rintro e w2 ⟨hk2,vy,rfl,hn2⟩
 have HK2:Hid (Kept w w2∧New w.heap.size w2 vx b∧New w.heap.size w2 vy a):=⟨HK1.out.1.trans hk2,HK1.out.2.kept hk2,hn2.mono HK1.out.1.size⟩
 clear hk2 hn2 HK1
 go_wp2
 go_loopw [5,6] (fun ux uy wr => ∃ (x y:List Nat) (aox aoy:Option Addr) (nx ny capx capy:Nat),ux = .slice aox nx capx∧uy = .slice aoy ny capy∧nx≤900∧ny≤nx ∧
   Hid (nx = x.length∧ny = y.length∧New w.heap.size wr (.slice aox nx capx) x∧New w.heap.size wr (.slice aoy ny capy) y∧M.Tr x∧M.Tr y∧M.val y≤M.val x∧g = Nat.gcd (M.val x) (M.val y)∧Kept w wr)) (fun ux uy wr => rdv wr ux + rdv wr uy)
 case atStart =>
  obtain ⟨aox,capx,rfl⟩:=HK2.out.2.1.shape
  obtain ⟨aoy,capy,rfl⟩:=HK2.out.2.2.shape
  exact ⟨b,a,aox,aoy,b.length,a.length,capx,capy,rfl,rfl,hlb,M.len_le_of_val_le HT.out.2.1 HK2.out.2.1.1 HT.out.2.2,rfl,rfl,HK2.out.2.1,HK2.out.2.2,HT.out.1,HT.out.2.1,HT.out.2.2,HG.out,HK2.out.1⟩
 case round =>
  obtain ⟨x,y,aox,aoy,nx,ny,capx,capy,rfl,rfl,hnx,hny,hr⟩:=hrel
  by_cases h2:2 < ny
  ·
   go_wp2_with fail
   obtain ⟨e1,e2,hNx,hNy,tx,ty,hyx,hg,hk⟩:=hr.out
   refine (leading_any _ _ x y _ hNx.sl hNy.sl (by omega) (by omega) (by omega) tx hyx).mono ?_
   rintro e w3 ⟨⟨k3,rfl⟩,A,B,K,rfl,hA,hBA,hT⟩
   have HTT:Hid (Leh.Tops A B K (M.val x) (M.val y)):=hT
   clear e1 e2 hNx hNy tx ty hyx hg hk hT
   go_wp2_with fail
   refine (surely_any A B _ hA hBA).mono ?_
   rintro e w4 ⟨hk4,aa,bb,x0,y0,x1,y1,x2,y2,t,rfl,hst⟩
   have HST:Hid (Leh.St A B aa bb x0 y0 x1 y1 x2 y2 t∧Kept wr w4):=⟨hst,((Kept.refl wr).drewN k3).trans hk4⟩
   clear hst hk4
   go_wp2_with fail
   refine (some_any x0 y0 x1 y1 t _).mono ?_
   rintro e w5 ⟨hk5,rfl⟩
   have hc5:=box5_kept hk5
   have HK5:Hid (Kept wr w5):=(HST.out.2.alloc _).trans hk5
   clear hk5
   by_cases hy0:y0 = 0
   ·
    have hd:decide (y0 ≠ 0) = false:=by simp [hy0]
    rw [hd]
    clear hc5
    go_wp2_with fail
    obtain ⟨e1,e2,hNx,hNy,tx,ty,hyx,hg,hk⟩:=hr.out
    refine (divide_any _ _ x y _ (hNx.sl.kept HK5.out) (hNy.sl.kept HK5.out) (by omega) (by omega) tx ty (by omega)).mono ?_
    rintro e w6 ⟨hk6,vq,q,vr,r,rfl,hnq,hnr,htq,htr,hlq,hval,hlt⟩
    obtain ⟨ar,cr,rfl⟩:=hnr.shape
    have hlr:r.length≤ny:=by rw [e2]; exact M.len_le_of_val_le htr hNy.1 (Nat.le_of_lt hlt)
    have HF:Hid (ny = y.length∧New w.heap.size w6 (.slice aoy ny capy) y∧New w.heap.size w6 (.slice ar r.length cr) r∧M.Tr y∧M.Tr r∧M.val r < M.val y∧g = Nat.gcd (M.val y) (M.val r)∧Kept w w6):=by
     refine ⟨e2,(hNy.kept HK5.out).kept hk6,hnr.mono (hk.trans HK5.out).size,ty,htr,hlt,?_,(hk.trans HK5.out).trans hk6⟩
     rw [hg,Nat.gcd_comm,Nat.gcd_rec,hval,Nat.mul_comm,Nat.mul_add_mod,Nat.mod_eq_of_lt hlt,Nat.gcd_comm]
    have HM:Hid (rdv wr (.slice aox nx capx) = M.val x∧rdv wr (.slice aoy ny capy) = M.val y∧M.val y≤M.val x):=⟨rdv_of hNx.sl,rdv_of hNy.sl,hyx⟩
    have hny9:ny≤900:=by omega
    clear e1 e2 hNx hNy tx ty hyx hg hk hk6 hnq hnr htq htr hlq hval hlt
    go_wp2
    go_roundw
    case rel => exact ⟨y,r,aoy,ar,ny,r.length,capy,cr,rfl,rfl,hny9,hlr,HF.out.1,rfl,HF.out.2.1,HF.out.2.2.1,HF.out.2.2.2.1,HF.out.2.2.2.2.1,Nat.le_of_lt HF.out.2.2.2.2.2.1,HF.out.2.2.2.2.2.2.1,HF.out.2.2.2.2.2.2.2⟩
    case measure =>
     have h1:=rdv_of HF.out.2.1.sl
     have h2:=rdv_of HF.out.2.2.1.sl
     have h3:=HM.out
     have h4:=HF.out.2.2.2.2.2.1
     show rdv w6 (.slice aoy ny capy) + rdv w6 (.slice ar r.length cr) < rdv wr (.slice aox nx capx) + rdv wr (.slice aoy ny capy)
     omega
   ·
    have hd:decide (y0 ≠ 0) = true:=by simp [hy0]
    rw [hd]
    obtain ⟨hc50,hc51,hc52,hc53,hc54⟩:=hc5
    go_wp2_with fail
    obtain ⟨e1,e2,hNx,hNy,tx,ty,hyx,hg,hk⟩:=hr.out
    obtain ⟨N0,N1,hN0,hN1,h10,h0Y,hsum,hgcd⟩:=Leh.st_done HST.out.1 hy0 HTT.out
    obtain ⟨c0,c1,c2,c3,_⟩:=Leh.st_bounds hA hBA HST.out.1
    have hX:=M.val_lt hNx.1
    rw [← e1] at hX
    have hC:Calls Try.prog 54 #[.agg #[.int .u64 (x0:Int),.int .u64 (y0:Int),.int .u64 (x1:Int),.int .u64 (y1:Int),.bool t],.slice aox nx capx,.slice aoy ny capy] w5 fun e w' => Kept w5 w'∧AppIs w5.heap.size w' e N0 N1 nx:=by
     cases t with
     | true =>
      refine apply_turned _ _ x y x0 y0 x1 y1 N0 N1 nx w5 (hNx.sl.kept HK5.out) (hNy.sl.kept HK5.out) e1.symm hnx (by omega) c0 c1 c2 c3 ?_ ?_ (by omega) (by omega)
      ·
       unfold Leh.e0 Leh.sg at hN0; simp only [if_true] at hN0
       have:((y0 * M.val y + N0:Nat):Int) = ((x0 * M.val x:Nat):Int):=by push_cast; omega
       exact_mod_cast this
      ·
       unfold Leh.e1 Leh.sg at hN1; simp only [if_true] at hN1
       have:((x1 * M.val x + N1:Nat):Int) = ((y1 * M.val y:Nat):Int):=by push_cast; omega
       exact_mod_cast this
     | false =>
      refine apply_plain _ _ x y x0 y0 x1 y1 N0 N1 nx w5 (hNx.sl.kept HK5.out) (hNy.sl.kept HK5.out) e1.symm hnx (by omega) c0 c1 c2 c3 ?_ ?_ (by omega) (by omega)
      ·
       unfold Leh.e0 Leh.sg at hN0; simp at hN0
       have:((x0 * M.val x + N0:Nat):Int) = ((y0 * M.val y:Nat):Int):=by push_cast; omega
       exact_mod_cast this
      ·
       unfold Leh.e1 Leh.sg at hN1; simp at hN1
       have:((y1 * M.val y + N1:Nat):Int) = ((x1 * M.val x:Nat):Int):=by push_cast; omega
       exact_mod_cast this
    refine hC.mono ?_
    rintro e w6 ⟨hk6,v0,l0,v1,l1,rfl,hn0,hn1,t0,t1,hv0,hv1,hl0,hl1⟩
    obtain ⟨a0,cc0,rfl⟩:=hn0.shape
    obtain ⟨a1,cc1,rfl⟩:=hn1.shape
    have hll:l1.length≤l0.length:=M.len_le_of_val_le t1 hn0.1 (by omega)
    have HF:Hid (New w.heap.size w6 (.slice a0 l0.length cc0) l0∧New w.heap.size w6 (.slice a1 l1.length cc1) l1∧M.Tr l0∧M.Tr l1∧M.val l1≤M.val l0∧g = Nat.gcd (M.val l0) (M.val l1)∧Kept w w6∧M.val l0 + M.val l1 < M.val x + M.val y):=by
     have hsz:=(hk.trans HK5.out).size
     refine ⟨hn0.mono hsz,hn1.mono hsz,t0,t1,by omega,?_,(hk.trans HK5.out).trans hk6,by omega⟩
     rw [hg,hv0,hv1,hgcd]
    have HM:Hid (rdv wr (.slice aox nx capx) = M.val x∧rdv wr (.slice aoy ny capy) = M.val y):=⟨rdv_of hNx.sl,rdv_of hNy.sl⟩
    have hl9:l0.length≤900:=by omega
    clear e1 e2 hNx hNy tx ty hyx hg hk hk6 hn0 hn1 t0 t1 hv0 hv1 hl0 hl1 hC hX hN0 hN1 h10 h0Y hsum hgcd hc50 hc51 hc52 hc53 hc54
    go_wp2
    go_roundw
    case rel => exact ⟨l0,l1,a0,a1,l0.length,l1.length,cc0,cc1,rfl,rfl,hl9,hll,rfl,rfl,HF.out.1,HF.out.2.1,HF.out.2.2.1,HF.out.2.2.2.1,HF.out.2.2.2.2.1,HF.out.2.2.2.2.2.1,HF.out.2.2.2.2.2.2.1⟩
    case measure =>
     have h1:=rdv_of HF.out.1.sl
     have h2:=rdv_of HF.out.2.1.sl
     have h3:=HM.out
     have h4:=HF.out.2.2.2.2.2.2.2
     show rdv w6 (.slice a0 l0.length cc0) + rdv w6 (.slice a1 l1.length cc1) < rdv wr (.slice aox nx capx) + rdv wr (.slice aoy ny capy)
     omega
  ·
   by_cases h0:ny = 0
   ·
    subst h0
    have HF:Hid (Kept w wr∧New w.heap.size wr (.slice aox nx capx) x∧M.Tr x∧M.val x = g):=by
     obtain ⟨e1,e2,hNx,hNy,tx,ty,hyx,hg,hk⟩:=hr.out
     have:y = []:=List.length_eq_zero_iff.1 e2.symm
     subst this
     exact ⟨hk,hNx,tx,by rw [hg]; simp [M.val]⟩
    clear hr
    go_wp2
    go_ret
    exact ⟨HF.out.1,_,x,rfl,HF.out.2.1,HF.out.2.2.1,HF.out.2.2.2⟩
   ·
    have hz:((ny:Int) == 0) = false:=by simp; omega
    go_wp2_with fail
    obtain ⟨e1,e2,hNx,hNy,tx,ty,hyx,hg,hk⟩:=hr.out
    refine (divide_any _ _ x y _ hNx.sl hNy.sl (by omega) (by omega) tx ty (by omega)).mono ?_
    rintro e w6 ⟨hk6,vq,q,vr,r,rfl,hnq,hnr,htq,htr,hlq,hval,hlt⟩
    have hlr:r.length≤ny:=by rw [e2]; exact M.len_le_of_val_le htr hNy.1 (Nat.le_of_lt hlt)
    have hyb:M.val y < 18446744073709551616:=by
     have h9:=M.val_lt hNy.1
     rw [← e2] at h9
     have h8:4294967296 ^ ny≤4294967296 ^ 2:=Nat.pow_le_pow_right (by decide) (by omega)
     have h7:4294967296 ^ 2 = 18446744073709551616:=by decide
     omega
    have HF:Hid (y.length≤2∧r.length≤2∧Sl w6 (.slice aoy ny capy) y∧Sl w6 vr r∧M.val r < M.val y∧g = Nat.gcd (M.val y) (M.val r)∧Kept w w6):=by
     refine ⟨by omega,by omega,(hNy.kept hk6).sl,hnr.sl,hlt,?_,hk.trans hk6⟩
     rw [hg,Nat.gcd_comm,Nat.gcd_rec,hval,Nat.mul_comm,Nat.mul_add_mod,Nat.mod_eq_of_lt hlt,Nat.gcd_comm]
    have hrb:M.val r < 18446744073709551616:=by omega
    clear e1 e2 hNx hNy tx ty hyx hg hk hk6 hnq hnr htq htr hlq hval hlt hr hlr
    go_wp2_with fail
    refine (toWord_any _ HF.out.2.2.1 HF.out.1).mono ?_
    rintro e w7 ⟨hk7,rfl⟩
    have HK7:Hid (Kept w6 w7):=hk7
    clear hk7
    go_wp2_with fail
    refine (toWord_any _ (HF.out.2.2.2.1.kept HK7.out) HF.out.2.1).mono ?_
    rintro e w8 ⟨hk8,rfl⟩
    have HK8:Hid (Kept w6 w8):=HK7.out.trans hk8
    clear hk8
    go_wp2_with fail
    refine (wordDivisor_any (M.val y) (M.val r) _ hyb hrb).mono ?_
    rintro e w9 ⟨rfl,k9,rfl⟩
    have hgb:Nat.gcd (M.val y) (M.val r) < 18446744073709551616:=Nat.lt_of_le_of_lt (Nat.gcd_le_left _ (by have:=HF.out.2.2.2.2.1; omega)) hyb
    go_wp2_with fail
    refine (fromWord_any _ _ hgb).mono ?_
    rintro e w10 ⟨hk10,v',l',rfl,hn',ht',hv',hl'⟩
    have hk8:Kept w w8:=HF.out.2.2.2.2.2.2.trans HK8.out
    have HE:Hid (Kept w w10∧New w.heap.size w10 v' l'∧M.Tr l'∧M.val l' = g):=by
     refine ⟨(hk8.drewN k9).trans hk10,hn'.mono (hk8.drewN k9).size,ht',?_⟩
     rw [hv',HF.out.2.2.2.2.2.1]
    clear hk10 hn' ht' hv' hl' hgb hyb hrb hk8
    go_wp2
    go_ret
    exact ⟨HE.out.1,v',l',rfl,HE.out.2⟩
end Go.Proofs.Ytojbncpifpghgaa

namespace Go.Proofs.Ytojbncpifpghgaa
open Go.RowKit
theorem divisor_any (va vb:Value) (a b:List Nat) (w:World) (ha:Sl w va a) (hb:Sl w vb b) (hla:a.length≤900) (hlb:b.length≤900) (ta:M.Tr a) (tb:M.Tr b) :
  Calls Try.prog 48 #[va,vb] w fun e w' => Kept w w'∧DvrIs w.heap.size w' e (Nat.gcd (M.val a) (M.val b)):=by
 by_cases h:M.val b≤M.val a
 ·
  exact divisor_ge va vb a b w ha hb hla hlb ta tb h
 ·
  exact divisor_lt va vb a b w ha hb hla hlb ta tb (by omega)
def GcdIs (B:Nat) (w':World) (e:Ending) (g:Nat):Prop:=∃ ao k cap l,e = .returned (.tuple #[.agg #[.bool false,.slice ao k cap],.int .i64 0])∧New B w' (.slice ao k cap) l∧M.Right false l∧M.val l = g
theorem gcd_len {a b l:List Nat} (ha:M.Bd a) (hb:M.Bd b) (hla:a.length≤72) (hlb:b.length≤72) (tl:M.Tr l) (h:M.val l = Nat.gcd (M.val a) (M.val b)):l.length≤72:=by
 by_cases h0:M.val a = 0
 ·
  rw [h0,Nat.gcd_zero_left] at h
  have:=M.len_le_of_val_le tl hb (by omega)
  omega
 ·
  have:=M.len_le_of_val_le tl ha (by rw [h]; exact Nat.gcd_le_left _ (by omega))
  omega
set_option maxHeartbeats 1000000 in
theorem gcd_any (m n:Bool) (va vb:Value) (a b:List Nat) (w:World) (ha:Sl w va a) (hb:Sl w vb b) (hra:R m a) (hrb:R n b) :
  Calls Try.prog 44 #[.agg #[.bool m,va],.agg #[.bool n,vb]] w fun e w' => Kept w w'∧GcdIs w.heap.size w' e (Nat.gcd (M.val a) (M.val b)):=by
 have HR:Hid (R m a∧R n b):=⟨hra,hrb⟩
 have HA:Hid (Sl w va a∧Sl w vb b):=⟨ha,hb⟩
 clear hra hrb ha hb
 have K3:∀ x y t,Kept w (((w.alloc x).alloc y).alloc t):=fun x y t => (((Kept.refl w).alloc x).alloc y).alloc t
 go_enter Try.func44,Try.ntmps44
 go_wp2_with fail
 refine (wrong_no m n va vb a b _ (HA.out.1.kept (K3 _ _ _)) (HA.out.2.kept (K3 _ _ _)) HR.out.1 HR.out.2).mono ?_
 rintro e w1 ⟨rfl,hk⟩
 have HKa:Hid (Kept (((w.alloc (.cells #[.bool m,va] 28)).alloc (.cells #[.bool n,vb] 28)).alloc (.cells #[.bool false,.slice none 0 0] 28)) w1):=hk
 have HK1:Hid (Kept w w1):=(K3 _ _ _).trans hk
 obtain ⟨hA0,hA1,hB0,hB1,hR0,hR1⟩:=box_kept3 hk
 clear hk
 go_wp2_with fail
 refine (divisor_any va vb a b _ (HA.out.1.kept HK1.out) (HA.out.2.kept HK1.out) (by have:=HR.out.1.1; omega) (by have:=HR.out.2.1; omega) HR.out.1.tr HR.out.2.tr).mono ?_
 rintro e w2 ⟨hk2,v,l,rfl,hn,ht,hv⟩
 have hl72:=gcd_len HA.out.1.bd HA.out.2.bd HR.out.1.1 HR.out.2.1 ht hv
 obtain ⟨ao,cap,rfl⟩:=hn.shape
 have HN:Hid (New w1.heap.size w2 (.slice ao l.length cap) l∧M.Tr l∧M.val l = Nat.gcd (M.val a) (M.val b)):=⟨hn,ht,hv⟩
 have HKb:Hid (Kept (((w.alloc (.cells #[.bool m,va] 28)).alloc (.cells #[.bool n,vb] 28)).alloc (.cells #[.bool false,.slice none 0 0] 28)) w2):=HKa.out.trans hk2
 clear hk2 hn ht hv hA0 hA1 hB0 hB1 hR0 hR1
 go_wp2_with fail
 refine (signed_any false ao l.length cap _ (by omega)).mono ?_
 rintro e w3 ⟨rfl,hk3⟩
 have hKc:=HKb.out.trans hk3
 obtain ⟨_,_,_,_,hR0,hR1⟩:=box_kept3 hKc
 have hf:=hKc.frozens
 have hsz:=HKa.out.size
 simp at hsz
 have HF:Hid (Kept w w3∧New (w.heap.size + 1 + 1 + 1) w3 (.slice ao l.length cap) l∧M.Right false l∧M.val l = Nat.gcd (M.val a) (M.val b)) :=
  ⟨(K3 _ _ _).trans hKc,(HN.out.1.kept hk3).mono hsz,⟨HN.out.1.1,HN.out.2.1,hl72,fun _ => rfl⟩,HN.out.2.2⟩
 clear hk3 hKc hsz
 rw [Bool.false_and]
 go_wp2
 exact bodyPost_ret (v:=.tuple #[.agg #[.bool false,.slice ao l.length cap],.int .i64 0]) (by simp [results,Try.results44,go_sem,hR0,hR1]) rfl
  ⟨(HF.out.1.setCell (by simp; omega) _).setCell (by simp; omega) _,ao,_,cap,l,rfl,((HF.out.2.1.other (by simp) _).other (by simp) _).mono (by omega),HF.out.2.2⟩
def ExaIs (B:Nat) (w':World) (e:Ending) (m n:Bool) (a b:List Nat):Prop:=∃ s ao k cap l,e = .returned (.tuple #[.agg #[.bool s,.slice ao k cap],.int .i64 0])∧New B w' (.slice ao k cap) l∧M.Right s l∧M.int s l * M.int n b = M.int m a
end Go.Proofs.Ytojbncpifpghgaa

/- shuntref09.Ints of equal lists; rows that a literal makes; shuntlaw13.awake. shuntlaw13: wide, SparseFills, SparseBest. Patterns that an elimination leaves, as lists; orders that fit: the mathematics of SparseOrders. Rows that grow in any order; shuntlaw13.turned. SparseTurned: its mathematics and its walk. SparseTells' walk. -/
import Derived.Test.YtlciijlgiknljaaGag
import Derived.Test.YtlciijlgiknljaaGae
namespace Go.Proofs.Ytlciijlgiknljaa
open Go.RowKit
open V (RowL RowL.alloc RowL.lt RowL.cell RowL.fz RowL.kept RowL.block RowL.set RowL.far)
namespace Sp
set_option maxRecDepth 100000 in
set_option maxHeartbeats 8000000 in
theorem ints_any (a1:Option Addr) (n c1:Nat) (a2:Option Addr) (c2:Nat) (l:List Int) (w:World) (h1:ISl w (.slice a1 n c1) l) (h2:ISl w (.slice a2 n c2) l) (hn:n≤1000000) :
  Calls Try.prog 21 #[.slice a1 n c1,.slice a2 n c2] w fun e w' => Kept w w'∧e = .returned (.bool true):=by
 have hl:=h1.len
 have HL:=hid (And.intro h1 (And.intro h2 hl))
 clear h1 h2 hl
 go_enter Try.func21,Try.ntmps21
 go_wp2_with fail
 go_loopw [5] (fun v5 wr => ∃ (i:Nat),i≤n∧v5 = .int .i64 (i:Int)∧Hid (Kept w wr)) (fun v5 _ => n - (intOf v5).toNat)
 case atStart => exact ⟨0,Nat.zero_le _,rfl,Kept.refl _⟩
 case round =>
  obtain ⟨i,hi,rfl,H⟩:=hrel
  by_cases hit:i < n
  ·
   have hii:(i:Int) < (n:Int):=by omega
   have hi0:(0:Int)≤(i:Int):=by omega
   have HK:=hid (H.out.trans (Kept.refl wr).drew)
   have hiL:i < l.length:=by have:=HL.out.2.2; omega
   obtain ⟨b1,o1,rfl,hd1⟩:=HL.out.1.at hiL
   obtain ⟨b2,o2,rfl,hd2⟩:=HL.out.2.1.at hiL
   have k1:=hd1 _ HK.out
   have k2:=hd2 _ HK.out
   clear hd1 hd2
   generalize l.getD i 0 = x at k1 k2
   go_upto_region 6 with fail
   refine wp_region_held_drew (S:=fun w' => w'.cell? ⟨b1,o1 + i,none⟩ = some (.int .i64 x)∧w'.cell? ⟨b2,o2 + i,none⟩ = some (.int .i64 x)) (by kernel_rfl) ⟨k1,k2⟩ (fun hHeld => ?_)
   clear k1 k2
   generalize wr.drew = Wd at HK hHeld ⊢
   refine tk 0 hHeld ?_
   refine tk 1 hHeld ?_
   refine tk 2 hHeld ?_
   refine tk 3 hHeld ?_
   refine tk 4 hHeld ?_
   refine tk 5 hHeld ?_
   refine tk 6 hHeld ?_
   refine tk 7 hHeld ?_
   refine tk 8 hHeld ?_
   refine _root_.Go.Proofs.Ytlciijlgiknljaa.dn ?_
   clear hHeld
   go_wp2_with fail
   go_roundw
   case rel => exact ⟨i + 1,by omega,by go_num,HK.out⟩
   case measure => show n - ((i:Int) + 1).toNat < n - (i:Int).toNat; omega
  ·
   have hii:¬ (i:Int) < (n:Int):=by omega
   go_wp2_with fail
   go_ret
   exact ⟨H.out,rfl⟩
theorem isl_row {w:World} {p n c:Nat} {l:List Int} (h:RowL 3 w p (l.map (Value.int .i64))) (hn:n = l.length):ISl w (.slice (some ⟨p,0,none⟩) n c) l:=by
 subst hn
 refine ⟨_,_,rfl,fun _ => ⟨p,0,rfl,h.lt,fun j hj => ?_⟩⟩
 rw [Nat.zero_add]
 refine h.cell j _ ?_
 rw [List.getElem?_map,List.getD_eq_getElem?_getD,List.getElem?_eq_getElem hj]
 rfl
theorem isl_nil {w:World}:ISl w (.slice none 0 0) []:=⟨none,0,rfl,fun h => absurd h (by decide)⟩
theorem pat_row {w:World} {q n c:Nat} {hs:List Value} {P:List (List Int)} (h:RowL 41 w q hs) (hn:n = P.length) (hr:∀ i,i < P.length→∃ ra rc,hs[i]? = some (.slice ra (P.getD i []).length rc)∧ISl w (.slice ra (P.getD i []).length rc) (P.getD i [])):PatR w (.slice (some ⟨q,0,none⟩) n c) P:=by
 subst hn
 refine ⟨_,_,rfl,fun _ => ⟨q,0,rfl,h.lt,fun i hi => ?_⟩⟩
 obtain ⟨ra,rc,h1,h2⟩:=hr i hi
 refine ⟨ra,rc,?_,h2⟩
 rw [Nat.zero_add]
 exact h.cell i _ h1
def pA:List (List Int):=[[0,1,2],[0,1],[0,2]]
theorem pA_len:∀ l ∈ pA,l.length≤1000000:=by decide
theorem a_order:orderS pA = [(1,1),(0,0),(2,2)]:=by kernel_rfl
theorem a_chk:chkP pA = 0:=by kernel_rfl
theorem a_fill:fillS pA [0,1,2] [0,1,2] = (2,0):=by kernel_rfl
theorem a_elim:elimS pA 1 1 = ([[0,2],[],[0,2]],0):=by kernel_rfl
theorem a_best:bestS pA = some (1,1):=by kernel_rfl
theorem a_cost:costS pA 0 0 = (4,0):=by kernel_rfl
theorem a_bad:chkP [[1]] = 130:=by kernel_rfl
theorem alloc_size (w:World) (o:Obj):(w.alloc o).heap.size = w.heap.size + 1:=by simp
theorem lit3 (w:World) (x1 x2 x3:List Int):Kept w ((((w.alloc (.cells (x1.map (Value.int .i64)).toArray 3)).alloc (.cells (x2.map (Value.int .i64)).toArray 3)).alloc (.cells (x3.map (Value.int .i64)).toArray 3)).alloc (.cells #[.slice (some ⟨w.heap.size,0,none⟩) x1.length x1.length,.slice (some ⟨w.heap.size + 1,0,none⟩) x2.length x2.length,.slice (some ⟨w.heap.size + 1 + 1,0,none⟩) x3.length x3.length] 41)) ∧
  PatR ((((w.alloc (.cells (x1.map (Value.int .i64)).toArray 3)).alloc (.cells (x2.map (Value.int .i64)).toArray 3)).alloc (.cells (x3.map (Value.int .i64)).toArray 3)).alloc (.cells #[.slice (some ⟨w.heap.size,0,none⟩) x1.length x1.length,.slice (some ⟨w.heap.size + 1,0,none⟩) x2.length x2.length,.slice (some ⟨w.heap.size + 1 + 1,0,none⟩) x3.length x3.length] 41)) (.slice (some ⟨w.heap.size + 1 + 1 + 1,0,none⟩) 3 3) [x1,x2,x3]:=by
 have r1:=RowL.alloc 3 w (x1.map (Value.int .i64))
 have k1:=(Kept.refl w).alloc (.cells (x1.map (Value.int .i64)).toArray 3)
 have s1:=alloc_size w (.cells (x1.map (Value.int .i64)).toArray 3)
 generalize w.alloc (.cells (x1.map (Value.int .i64)).toArray 3) = W1 at r1 k1 s1 ⊢
 have r2:=RowL.alloc 3 W1 (x2.map (Value.int .i64))
 have k2:=(Kept.refl W1).alloc (.cells (x2.map (Value.int .i64)).toArray 3)
 have s2:=alloc_size W1 (.cells (x2.map (Value.int .i64)).toArray 3)
 generalize W1.alloc (.cells (x2.map (Value.int .i64)).toArray 3) = W2 at r2 k2 s2 ⊢
 have r3:=RowL.alloc 3 W2 (x3.map (Value.int .i64))
 have k3:=(Kept.refl W2).alloc (.cells (x3.map (Value.int .i64)).toArray 3)
 have s3:=alloc_size W2 (.cells (x3.map (Value.int .i64)).toArray 3)
 generalize W2.alloc (.cells (x3.map (Value.int .i64)).toArray 3) = W3 at r3 k3 s3 ⊢
 have r4:=RowL.alloc 41 W3 [.slice (some ⟨w.heap.size,0,none⟩) x1.length x1.length,.slice (some ⟨w.heap.size + 1,0,none⟩) x2.length x2.length,.slice (some ⟨w.heap.size + 1 + 1,0,none⟩) x3.length x3.length]
 have k4:=(Kept.refl W3).alloc (.cells #[.slice (some ⟨w.heap.size,0,none⟩) x1.length x1.length,.slice (some ⟨w.heap.size + 1,0,none⟩) x2.length x2.length,.slice (some ⟨w.heap.size + 1 + 1,0,none⟩) x3.length x3.length] 41)
 rw [s3,s2,s1] at r4
 rw [s2,s1] at r3
 rw [s1] at r2
 refine ⟨((k1.trans k2).trans k3).trans k4,pat_row r4 rfl (fun i hi => ?_)⟩
 match i,hi with
 | 0,_ => exact ⟨_,_,rfl,isl_row (((r1.kept k2).kept k3).kept k4) rfl⟩
 | 1,_ => exact ⟨_,_,rfl,isl_row ((r2.kept k3).kept k4) rfl⟩
 | 2,_ => exact ⟨_,_,rfl,isl_row (r3.kept k4) rfl⟩
theorem lit2 (w:World) (x1 x2:List Int):Kept w (((w.alloc (.cells (x1.map (Value.int .i64)).toArray 3)).alloc (.cells (x2.map (Value.int .i64)).toArray 3)).alloc (.cells #[.slice (some ⟨w.heap.size,0,none⟩) x1.length x1.length,.slice none 0 0,.slice (some ⟨w.heap.size + 1,0,none⟩) x2.length x2.length] 41)) ∧
  PatR (((w.alloc (.cells (x1.map (Value.int .i64)).toArray 3)).alloc (.cells (x2.map (Value.int .i64)).toArray 3)).alloc (.cells #[.slice (some ⟨w.heap.size,0,none⟩) x1.length x1.length,.slice none 0 0,.slice (some ⟨w.heap.size + 1,0,none⟩) x2.length x2.length] 41)) (.slice (some ⟨w.heap.size + 1 + 1,0,none⟩) 3 3) [x1,[],x2]:=by
 have r1:=RowL.alloc 3 w (x1.map (Value.int .i64))
 have k1:=(Kept.refl w).alloc (.cells (x1.map (Value.int .i64)).toArray 3)
 have s1:=alloc_size w (.cells (x1.map (Value.int .i64)).toArray 3)
 generalize w.alloc (.cells (x1.map (Value.int .i64)).toArray 3) = W1 at r1 k1 s1 ⊢
 have r2:=RowL.alloc 3 W1 (x2.map (Value.int .i64))
 have k2:=(Kept.refl W1).alloc (.cells (x2.map (Value.int .i64)).toArray 3)
 have s2:=alloc_size W1 (.cells (x2.map (Value.int .i64)).toArray 3)
 generalize W1.alloc (.cells (x2.map (Value.int .i64)).toArray 3) = W2 at r2 k2 s2 ⊢
 have r4:=RowL.alloc 41 W2 [.slice (some ⟨w.heap.size,0,none⟩) x1.length x1.length,.slice none 0 0,.slice (some ⟨w.heap.size + 1,0,none⟩) x2.length x2.length]
 have k4:=(Kept.refl W2).alloc (.cells #[.slice (some ⟨w.heap.size,0,none⟩) x1.length x1.length,.slice none 0 0,.slice (some ⟨w.heap.size + 1,0,none⟩) x2.length x2.length] 41)
 rw [s2,s1] at r4
 rw [s1] at r2
 refine ⟨(k1.trans k2).trans k4,pat_row r4 rfl (fun i hi => ?_)⟩
 match i,hi with
 | 0,_ => exact ⟨_,_,rfl,isl_row ((r1.kept k2).kept k4) rfl⟩
 | 1,_ => exact ⟨_,_,rfl,isl_nil⟩
 | 2,_ => exact ⟨_,_,rfl,isl_row (r2.kept k4) rfl⟩
theorem lit1 (w:World) (x1:List Int):Kept w ((w.alloc (.cells (x1.map (Value.int .i64)).toArray 3)).alloc (.cells #[.slice (some ⟨w.heap.size,0,none⟩) x1.length x1.length] 41)) ∧
  PatR ((w.alloc (.cells (x1.map (Value.int .i64)).toArray 3)).alloc (.cells #[.slice (some ⟨w.heap.size,0,none⟩) x1.length x1.length] 41)) (.slice (some ⟨w.heap.size + 1,0,none⟩) 1 1) [x1]:=by
 have r1:=RowL.alloc 3 w (x1.map (Value.int .i64))
 have k1:=(Kept.refl w).alloc (.cells (x1.map (Value.int .i64)).toArray 3)
 have s1:=alloc_size w (.cells (x1.map (Value.int .i64)).toArray 3)
 generalize w.alloc (.cells (x1.map (Value.int .i64)).toArray 3) = W1 at r1 k1 s1 ⊢
 have r4:=RowL.alloc 41 W1 [.slice (some ⟨w.heap.size,0,none⟩) x1.length x1.length]
 have k4:=(Kept.refl W1).alloc (.cells #[.slice (some ⟨w.heap.size,0,none⟩) x1.length x1.length] 41)
 rw [s1] at r4
 refine ⟨k1.trans k4,pat_row r4 rfl (fun i hi => ?_)⟩
 match i,hi with
 | 0,_ => exact ⟨_,_,rfl,isl_row (r1.kept k4) rfl⟩
set_option maxRecDepth 100000 in
set_option maxHeartbeats 8000000 in
theorem awake13_any (w:World):Calls Try.prog 9 #[] w fun e w' => Kept w w'∧e = .returned (.bool true):=by
 have hA:=lit3 w [0,1,2] [0,1] [0,2]
 go_enter Try.func9,Try.ntmps9
 go_wp2_with fail
 --%A
 have hA:Kept w ((((w.alloc (.cells #[.int .i64 0,.int .i64 1,.int .i64 2] 3)).alloc (.cells #[.int .i64 0,.int .i64 1] 3)).alloc (.cells #[.int .i64 0,.int .i64 2] 3)).alloc (.cells #[.slice (some ⟨w.heap.size,0,none⟩) 3 3,.slice (some ⟨w.heap.size + 1,0,none⟩) 2 2,.slice (some ⟨w.heap.size + 1 + 1,0,none⟩) 2 2] 41))∧PatR ((((w.alloc (.cells #[.int .i64 0,.int .i64 1,.int .i64 2] 3)).alloc (.cells #[.int .i64 0,.int .i64 1] 3)).alloc (.cells #[.int .i64 0,.int .i64 2] 3)).alloc (.cells #[.slice (some ⟨w.heap.size,0,none⟩) 3 3,.slice (some ⟨w.heap.size + 1,0,none⟩) 2 2,.slice (some ⟨w.heap.size + 1 + 1,0,none⟩) 2 2] 41)) (.slice (some ⟨w.heap.size + 1 + 1 + 1,0,none⟩) 3 3) pA:=hA
 generalize (((w.alloc (.cells #[.int .i64 0,.int .i64 1,.int .i64 2] 3)).alloc (.cells #[.int .i64 0,.int .i64 1] 3)).alloc (.cells #[.int .i64 0,.int .i64 2] 3)).alloc (.cells #[.slice (some ⟨w.heap.size,0,none⟩) 3 3,.slice (some ⟨w.heap.size + 1,0,none⟩) 2 2,.slice (some ⟨w.heap.size + 1 + 1,0,none⟩) 2 2] 41) = W at hA ⊢
 generalize w.heap.size + 1 + 1 + 1 = q at hA ⊢
 have HA:=hid hA
 clear hA
 refine (sp_order _ 3 3 pA _ HA.out.2 (by omega) pA_len).mono ?_
 rintro e w1 ⟨hk,v,u,rfl,hv,hu,_⟩
 rw [a_order] at hv hu
 rw [a_chk]
 have HA:=hid (And.intro (HA.out.1.trans hk) (HA.out.2.kept hk))
 obtain ⟨va,vc,rfl⟩:=own_shape hv
 obtain ⟨ua,uc,rfl⟩:=own_shape hu
 have HV:=hid (And.intro (show ISl w1 (.slice va 3 vc) [1,0,2] from OwnI.isl hv) (show ISl w1 (.slice ua 3 uc) [1,0,2] from OwnI.isl hu))
 rw [show (fstI [(1,1),(0,0),(2,2)]).length = 3 from rfl,show (sndI [(1,1),(0,0),(2,2)]).length = 3 from rfl]
 clear hk hv hu
 --%B
 have r1:=RowL.alloc 3 w1 [.int .i64 0,.int .i64 1,.int .i64 2]
 have k1:=(Kept.refl w1).alloc (.cells #[.int .i64 0,.int .i64 1,.int .i64 2] 3)
 have s1:=alloc_size w1 (.cells #[.int .i64 0,.int .i64 1,.int .i64 2] 3)
 have r2:=RowL.alloc 3 (w1.alloc (.cells #[.int .i64 0,.int .i64 1,.int .i64 2] 3)) [.int .i64 0,.int .i64 1,.int .i64 2]
 have k2:=(Kept.refl (w1.alloc (.cells #[.int .i64 0,.int .i64 1,.int .i64 2] 3))).alloc (.cells #[.int .i64 0,.int .i64 1,.int .i64 2] 3)
 rw [s1] at r2
 have HF:=hid (And.intro (k1.trans k2) (And.intro (r1.kept k2) r2))
 clear r1 k1 s1 r2 k2
 go_wp2_with fail
 --%C
 refine (sp_fill _ 3 3 _ 3 3 _ 3 3 pA [0,1,2] [0,1,2] _ (HA.out.2.kept HF.out.1) (isl_row HF.out.2.1 rfl) (isl_row HF.out.2.2 rfl) (by omega) pA_len (by omega)).mono ?_
 rintro e w2 ⟨hk,rfl⟩
 rw [a_fill]
 have HA:=hid (And.intro ((HA.out.1.trans HF.out.1).trans hk) ((HA.out.2.kept HF.out.1).kept hk))
 have HV:=hid (And.intro ((HV.out.1.kept HF.out.1).kept hk) ((HV.out.2.kept HF.out.1).kept hk))
 clear hk HF
 go_wp2_with fail
 refine (sp_elim _ 3 3 pA 1 1 _ HA.out.2 (by omega) pA_len).mono ?_
 rintro e w3 ⟨hk,t,rfl,hT⟩
 rw [a_elim] at hT ⊢
 obtain ⟨ta,tc,rfl⟩:=hT.shape
 have HA:=hid (And.intro (HA.out.1.trans hk) (HA.out.2.kept hk))
 have HV:=hid (And.intro (HV.out.1.kept hk) (HV.out.2.kept hk))
 have HT:=hid (show PatR w3 (.slice ta 3 tc) [[0,2],[],[0,2]] from hT.pat)
 rw [show ([[0,2],[],[0,2]]:List (List Int)).length = 3 from rfl]
 clear hk hT
 --%D
 go_wp2_with fail
 refine (sp_best _ 3 3 pA _ HA.out.2 (by omega) pA_len).mono ?_
 rintro e w4 ⟨hk,rfl⟩
 rw [a_best,a_chk]
 have HA:=hid (And.intro (HA.out.1.trans hk) (HA.out.2.kept hk))
 have HV:=hid (And.intro (HV.out.1.kept hk) (HV.out.2.kept hk))
 have HT:=hid (HT.out.kept hk)
 clear hk
 go_wp2_with fail
 refine (sp_cost _ 3 3 pA 0 0 _ HA.out.2 (by omega) pA_len).mono ?_
 rintro e w5 ⟨hk,rfl⟩
 rw [a_cost]
 have HA:=hid (And.intro (HA.out.1.trans hk) (HA.out.2.kept hk))
 have HV:=hid (And.intro (HV.out.1.kept hk) (HV.out.2.kept hk))
 have HT:=hid (HT.out.kept hk)
 clear hk
 have r1:=RowL.alloc 3 w5 [.int .i64 1,.int .i64 0,.int .i64 2]
 have k1:=(Kept.refl w5).alloc (.cells #[.int .i64 1,.int .i64 0,.int .i64 2] 3)
 have HF:=hid (And.intro k1 r1)
 clear r1 k1
 --%E
 go_wp2_with fail
 --%F
 refine (ints_any va 3 vc _ 3 [1,0,2] _ (HV.out.1.kept HF.out.1) (isl_row HF.out.2 rfl) (by omega)).mono ?_
 rintro e w6 ⟨hk,rfl⟩
 have HA:=hid (And.intro ((HA.out.1.trans HF.out.1).trans hk) ((HA.out.2.kept HF.out.1).kept hk))
 have HV:=hid (And.intro ((HV.out.1.kept HF.out.1).kept hk) ((HV.out.2.kept HF.out.1).kept hk))
 have HT:=hid ((HT.out.kept HF.out.1).kept hk)
 clear hk HF
 go_wp2_with fail
 refine (ints_any ua 3 uc va vc [1,0,2] _ HV.out.2 HV.out.1 (by omega)).mono ?_
 rintro e w7 ⟨hk,rfl⟩
 have HK:=hid (HA.out.1.trans hk)
 have HT:=hid (HT.out.kept hk)
 clear hk HA HV
 have hB:=lit2 w7 [0,2] [0,2]
 have hB:Kept w7 (((w7.alloc (.cells #[.int .i64 0,.int .i64 2] 3)).alloc (.cells #[.int .i64 0,.int .i64 2] 3)).alloc (.cells #[.slice (some ⟨w7.heap.size,0,none⟩) 2 2,.slice none 0 0,.slice (some ⟨w7.heap.size + 1,0,none⟩) 2 2] 41))∧PatR (((w7.alloc (.cells #[.int .i64 0,.int .i64 2] 3)).alloc (.cells #[.int .i64 0,.int .i64 2] 3)).alloc (.cells #[.slice (some ⟨w7.heap.size,0,none⟩) 2 2,.slice none 0 0,.slice (some ⟨w7.heap.size + 1,0,none⟩) 2 2] 41)) (.slice (some ⟨w7.heap.size + 1 + 1,0,none⟩) 3 3) [[0,2],[],[0,2]]:=hB
 have HB:=hid hB
 clear hB
 go_wp2_with fail
 --%G
 refine (same_any ta 3 tc _ 3 [[0,2],[],[0,2]] _ (HT.out.kept HB.out.1) HB.out.2 (by omega) (by decide)).mono ?_
 rintro e w8 ⟨hk,rfl⟩
 have HK:=hid ((HK.out.trans HB.out.1).trans hk)
 clear hk HB HT
 have hB:=lit1 w8 [1]
 have hB:Kept w8 ((w8.alloc (.cells #[.int .i64 1] 3)).alloc (.cells #[.slice (some ⟨w8.heap.size,0,none⟩) 1 1] 41))∧PatR ((w8.alloc (.cells #[.int .i64 1] 3)).alloc (.cells #[.slice (some ⟨w8.heap.size,0,none⟩) 1 1] 41)) (.slice (some ⟨w8.heap.size + 1,0,none⟩) 1 1) [[1]]:=hB
 have HB:=hid hB
 clear hB
 go_wp2_with fail
 --%H
 refine (sp_check _ 1 1 [[1]] _ HB.out.2 (by omega) (by decide)).mono ?_
 rintro e w9 ⟨hk,rfl⟩
 rw [a_bad]
 have HK:=hid ((HK.out.trans HB.out.1).trans hk)
 clear hk HB
 go_wp2_with fail
 go_ret
 exact ⟨HK.out,rfl⟩
end Sp
end Go.Proofs.Ytlciijlgiknljaa

namespace Go.Proofs.Ytlciijlgiknljaa
open Go.RowKit
open V (RowL RowL.alloc RowL.lt RowL.cell RowL.fz RowL.kept RowL.block RowL.set RowL.far)
namespace Sp
def WideIs (e:Ending) (n:Nat) (P:List (List Int)):Prop:=∃ b,e = .returned (.bool b)∧(b = false→n≤61∧∀ l ∈ P,l.length≤60)
set_option maxRecDepth 100000 in
set_option maxHeartbeats 8000000 in
theorem wide_any (ao:Option Addr) (n c:Nat) (P:List (List Int)) (w:World) (h:PatR w (.slice ao n c) P) :
  Calls Try.prog 10 #[.slice ao n c] w fun e w' => w' = w∧WideIs e n P:=by
 have hl:=h.len
 have HL:=hid (And.intro h hl)
 clear h hl
 go_enter Try.func10,Try.ntmps10
 go_wp2_with fail
 go_loopw [6] (fun v6 wr => ∃ (i:Nat),i≤n∧i≤61∧v6 = .int .i64 (i:Int)∧wr = w∧Hid (∀ j,j < i→(P.getD j []).length≤60)) (fun v6 _ => n - (intOf v6).toNat)
 case atStart => exact ⟨0,Nat.zero_le _,by omega,rfl,rfl,fun j hj => absurd hj (Nat.not_lt_zero _)⟩
 case round =>
  obtain ⟨i,hil,hi61,rfl,rfl,H⟩:=hrel
  by_cases hit:i < n
  ·
   have hii:(i:Int) < (n:Int):=by omega
   have hi0:(0:Int)≤(i:Int):=by omega
   by_cases h60:60 < i
   ·
    have h60':(60:Int) < (i:Int):=by omega
    go_wp2_with fail
    go_ret
    exact ⟨rfl,true,rfl,fun h => by cases h⟩
   ·
    have h60':¬ (60:Int) < (i:Int):=by omega
    have hiL:i < P.length:=by have:=HL.out.2; omega
    obtain ⟨b,off,rfl,ra,rc,hc,_⟩:=HL.out.1.row hiL
    have c1:=hc _ (Kept.refl _)
    have HS:=hid (fun (h:(P.getD i []).length≤60) j (hj:j < i + 1) => (show (P.getD j []).length≤60 by
     by_cases e:j < i
     ·
      exact H.out j e
     ·
      obtain rfl:j = i:=by omega
      exact h))
    clear hc
    generalize (P.getD i []).length = rl at c1 HS
    by_cases hr:60 < rl
    ·
     have hr':(60:Int) < (rl:Int):=by omega
     go_wp2_with fail
     go_ret
     exact ⟨rfl,true,rfl,fun h => by cases h⟩
    ·
     have hr':¬ (60:Int) < (rl:Int):=by omega
     go_wp2_with fail
     go_roundw
     case rel => exact ⟨i + 1,by omega,by omega,by go_num,by first | rfl | trivial,HS.out (by omega)⟩
     case measure => show n - ((i:Int) + 1).toNat < n - (i:Int).toNat; omega
  ·
   have hii:¬ (i:Int) < (n:Int):=by omega
   go_wp2_with fail
   go_ret
   refine ⟨rfl,false,rfl,fun _ => ⟨by omega,fun l hl => ?_⟩⟩
   obtain ⟨j,hj,rfl⟩:=List.getElem_of_mem hl
   have:=H.out j (by have:=HL.out.2; omega)
   rw [List.getD_eq_getElem?_getD,List.getElem?_eq_getElem hj] at this
   exact this
def cntP (P:List (List Int)) (i:Nat):Nat:=((P.take i).map List.length).sum
end Sp
end Go.Proofs.Ytlciijlgiknljaa

namespace Go.Proofs.Ytlciijlgiknljaa
namespace Sp
def toI (l:List (Nat × Nat)):List (Int × Int):=l.map fun q => ((q.1:Int),(q.2:Int))
theorem order_fits {P:List (List Int)} (hok:okP P = true):fitsL P.length (mP P) (orderS P)∧(orderS P).length≤P.length∧∀ i k,i < P.length→k < P.length→leftL (mP P) (orderS P) i k = false:=by
 unfold orderS
 rw [if_pos hok]
 have h:=order_ends P.length P.length (mP P) (live_le _ _)
 exact ⟨h.1,Nat.le_trans h.2.1 (live_le _ _),h.2.2⟩
end Sp
end Go.Proofs.Ytlciijlgiknljaa

namespace Go.Proofs.Ytlciijlgiknljaa
open Go.RowKit
open V (RowL RowL.alloc RowL.lt RowL.cell RowL.fz RowL.kept RowL.block RowL.set RowL.far)
namespace Sp
structure Grid (B:Nat) (w:World) (g n:Nat) (hs:Nat→Value) (L:Nat→List Int):Prop where
 base:B≤g
 row:RowL 41 w g (vrow n hs)
 own:∀ j,j < n→OwnI B w (hs j) (L j)
 apart:∀ j k,j < n→k < n→j ≠ k→∀ b,(hs j).ownBlock = some b→(hs k).ownBlock ≠ some b
theorem Grid.kept {B:Nat} {w w':World} {g n:Nat} {hs:Nat→Value} {L:Nat→List Int} (h:Grid B w g n hs L) (k:Kept w w'):Grid B w' g n hs L :=
 ⟨h.base,h.row.kept k,fun j hj => own_keptK (h.own j hj) k,h.apart⟩
theorem Grid.congr {B:Nat} {w:World} {g n:Nat} {hs:Nat→Value} {L L':Nat→List Int} (h:Grid B w g n hs L) (e:∀ j,j < n→L j = L' j):Grid B w g n hs L' :=
 ⟨h.base,h.row,fun j hj => by rw [← e j hj]; exact h.own j hj,h.apart⟩
theorem Grid.push {B:Nat} {w W w5:World} {g n c:Nat} {hs:Nat→Value} {L:Nat→List Int} {x:Int} {G cap:Nat} (h:Grid B w g n hs L) (hc:c < n) (kA:Kept w W)
  (hO:w5.ownsRow B 3 1 (.slice (some ⟨G,0,none⟩) ((L c).length + 1) cap) ((L c).length + 1) ((L c).map (Value.int .i64) ++ [.int .i64 x])) (hgr:W.grownBy w5 (hs c).ownBlock) (hG:(hs c).ownBlock = some G ∨ G = W.heap.size) :
  Grid B (w5.setCell ⟨g,c,none⟩ (.slice (some ⟨G,0,none⟩) ((L c).length + 1) cap)) g n (fun j => if j = c then .slice (some ⟨G,0,none⟩) ((L c).length + 1) cap else hs j) (fun j => if j = c then L c ++ [x] else L j):=by
 have hW:=h.kept kA
 have hne:(hs c).ownBlock ≠ some g:=own_row (hW.own c hc) hW.row (by decide)
 have r5:RowL 41 w5 g (vrow n hs):=hW.row.block (hgr.block g hW.row.lt (fun e => hne e.symm))
 have o5:∀ j,j < n→j ≠ c→OwnI B w5 (hs j) (L j):=fun j hj e => own_kept (hW.own j hj) (fun b hb => hgr.block b (World.ownsRow.lt (hW.own j hj) b hb).2 (fun e' => hW.apart j c hj hc e b hb e'.symm))
 have hset:∀ {v:Value} {l:List Int} (V:Value),OwnI B w5 v l→OwnI B (w5.setCell ⟨g,c,none⟩ V) v l:=fun {v l} V ho => own_kept ho (fun b hb => ((only_refl g w5).set c V).block b (fun e => own_row ho r5 (by decide) (by rw [← e]; exact hb)))
 refine ⟨h.base,?_,fun j hj => ?_,fun j k hj hk hjk b hb => ?_⟩
 ·
  have:=r5.set c (.slice (some ⟨G,0,none⟩) ((L c).length + 1) cap)
  rw [vrow_set] at this
  exact this
 ·
  by_cases e:j = c
  ·
   rw [if_pos e,if_pos e]
   exact hset _ (OwnI.snoc hO)
  ·
   rw [if_neg e,if_neg e]
   exact hset _ (o5 j hj e)
 ·
  have key:∀ i,i < n→i ≠ c→(hs i).ownBlock ≠ some G:=by
   intro i hi e he
   rcases hG with hG | hG
   ·
    exact hW.apart i c hi hc e G he hG
   ·
    have:=(World.ownsRow.lt (hW.own i hi) G he).2
    omega
  by_cases e:j = c
  ·
   rw [if_pos e] at hb
   rw [if_neg (fun e' => hjk (by rw [e,e']))]
   have hb:G = b:=by simpa [Value.ownBlock] using hb
   rw [← hb]
   exact key k hk (fun e' => hjk (by rw [e,e']))
  ·
   rw [if_neg e] at hb
   by_cases e':k = c
   ·
    rw [if_pos e']
    intro h2
    have h2:G = b:=by simpa [Value.ownBlock] using h2
    exact key j hj e (by rw [h2]; exact hb)
   ·
    rw [if_neg e']
    exact hW.apart j k hj hk hjk b hb
theorem Grid.pat {B:Nat} {w:World} {g n c:Nat} {hs:Nat→Value} {L:Nat→List Int} (h:Grid B w g n hs L):PatR w (.slice (some ⟨g,0,none⟩) n c) ((List.range n).map L):=by
 refine ⟨_,c,by rw [List.length_map,List.length_range],fun _ => ⟨g,0,rfl,h.row.lt,fun i hi => ?_⟩⟩
 rw [List.length_map,List.length_range] at hi
 rw [show ((List.range n).map L).getD i [] = L i by rw [List.getD_eq_getElem?_getD,List.getElem?_map,List.getElem?_range hi]; rfl]
 obtain ⟨ra,rc,e⟩:=own_shape (h.own i hi)
 have h4:=(h.own i hi).isl
 rw [e] at h4
 refine ⟨ra,rc,?_,h4⟩
 rw [Nat.zero_add,← e]
 exact h.row.cell i _ (vrow_at hi)
def tU (P:List (List Int)) (i k:Nat):Nat→List Int:=fun c => thinR (tr (mP P)) c i ++ if mT (P.getD i []) k c = true then [(i:Int)] else []
end Sp
end Go.Proofs.Ytlciijlgiknljaa

namespace Go.Proofs.Ytlciijlgiknljaa
open Go.RowKit
namespace Sp
theorem thin_rows {n:Nat} {m:Nat→Nat→Bool} (hn:n≤48):∀ l ∈ thinP n m n,l.length≤1000000:=by
 intro l hl
 unfold thinP at hl
 obtain ⟨i,_,rfl⟩:=List.mem_map.1 hl
 have:=thinR_len m i n
 omega
end Sp
end Go.Proofs.Ytlciijlgiknljaa

namespace Go.Proofs.Ytlciijlgiknljaa
open Go.RowKit
open V (RowL RowL.alloc RowL.lt RowL.cell RowL.fz RowL.kept RowL.block RowL.set RowL.far)
namespace Sp
def Room (w:World) (g n:Nat):Prop:=∀ j,j < n→(∃ u,w.cell? ⟨g,j,none⟩ = some u)∧w.frozen? ⟨g,j,none⟩ = false
theorem Room.block {w w':World} {g n:Nat} (h:Room w g n) (k:w'.heap[g]? = w.heap[g]?):Room w' g n:=fun j hj => by
 obtain ⟨⟨u,h1⟩,h2⟩:=h j hj
 refine ⟨⟨u,?_⟩,?_⟩
 ·
  rw [← h1]; simp [World.cell?,k]
 ·
  rw [← h2]; simp [World.frozen?,k]
theorem Room.set {w:World} {g n q i:Nat} {v:Value} (h:Room w g n):Room (w.setCell ⟨q,i,none⟩ v) g n:=fun j hj => by
 obtain ⟨⟨u,h1⟩,h2⟩:=h j hj
 by_cases e:q = g
 ·
  subst e
  cases hb:w.heap[q]? with
  | none => simp [World.cell?,hb] at h1
  | some o =>
   cases o with
   | cells c t fz =>
    simp [World.cell?,hb] at h1
    have h3:(w.setCell ⟨q,i,none⟩ v).heap[q]? = some (.cells (c.setIfInBounds i v) t fz):=by simp [World.setCell,Array.getElem?_modify,hb]
    have hlt:j < c.size:=by
     rcases Nat.lt_or_ge j c.size with h | h
     ·
      exact h
     ·
      rw [Array.getElem?_eq_none h] at h1; cases h1
    refine ⟨?_,?_⟩
    ·
     simp [World.cell?,h3,Array.getElem?_setIfInBounds]
     by_cases e2:i = j
     ·
      subst e2; exact ⟨v,by simp [hlt]⟩
     ·
      exact ⟨u,by simp [e2,h1]⟩
    ·
     rw [← h2]; simp [World.frozen?,h3,hb]
   | _ => simp [World.cell?,hb] at h1
 ·
  exact (show Room w g n from h).block (((only_refl q w).set i v).block g (fun e' => e e'.symm)) j hj
structure Frm (B H:Nat) (w w':World):Prop where
 kept:∀ w0,Kept w0 w→w0.heap.size≤B→Kept w0 w'
 above:∀ b,H≤b→w'.heap[b]? = w.heap[b]?
theorem frm_refl (B H:Nat) (w:World):Frm B H w w:=⟨fun _ k _ => k,fun _ _ => rfl⟩
theorem Frm.set {B H:Nat} {w w':World} (h:Frm B H w w') {g:Nat} (h1:B≤g) (h2:g < H) (i:Nat) (v:Value):Frm B H w (w'.setCell ⟨g,i,none⟩ v) :=
 ⟨fun w0 k hb => (h.kept w0 k hb).setCell (p:=⟨g,i,none⟩) (Nat.le_trans hb h1) v,fun b hb => by rw [((only_refl g w').set i v).block b (by omega),h.above b hb]⟩
theorem PatU.above {H:Nat} {w w':World} {v:Value} {P:List (List Int)} (h:PatU H w v P) (k:∀ b,H≤b→w'.heap[b]? = w.heap[b]?):PatU H w' v P:=by
 obtain ⟨hs,h1,h2,h3⟩:=h
 exact ⟨hs,h1,own_kept h2 (fun b hb => k b (World.ownsRow.lt h2 b hb).1),fun j hj => own_kept (h3 j hj) (fun b hb => k b (World.ownsRow.lt (h3 j hj) b hb).1)⟩
structure Soft (B H:Nat) (w:World) (ao:Option Addr) (Q:List (List Int)):Prop where
 row:∀ i,i < Q.length→∃ g,ao = some ⟨g,0,none⟩∧∃ ra rc,w.cell? ⟨g,i,none⟩ = some (.slice ra (Q.getD i []).length rc)∧(0 < (Q.getD i []).length→∃ rb,ra = some ⟨rb,0,none⟩∧B≤rb∧rb < H∧rb ≠ g∧Room w rb (Q.getD i []).length)
theorem PatU.soft {B:Nat} {w:World} {ao:Option Addr} {n c:Nat} {Q:List (List Int)} (h:PatU B w (.slice ao n c) Q):Soft B w.heap.size w ao Q:=by
 obtain ⟨hs,h1,h2,h3⟩:=h
 refine ⟨fun i hi => ?_⟩
 obtain ⟨g,cap,e,_,hg,_,hc,_⟩:=own_cell h2 (by omega)
 simp only [Value.slice.injEq] at e
 obtain ⟨rfl,_,_⟩:=e
 obtain ⟨ra,rc,e⟩:=own_shape (h3 i hi)
 refine ⟨g,rfl,ra,rc,?_,fun h0 => ?_⟩
 ·
  rw [← e]
  refine hc i _ ?_
  rw [List.getD_eq_getElem?_getD,List.getElem?_eq_getElem (by omega)]
  rfl
 ·
  obtain ⟨rb,cap2,e2,hB,hlt,_,hc2,hf2⟩:=own_cell (h3 i hi) h0
  have e3:(Value.slice ra (Q.getD i []).length rc) = .slice (some ⟨rb,0,none⟩) (Q.getD i []).length cap2:=by rw [← e,e2]
  simp only [Value.slice.injEq] at e3
  refine ⟨rb,e3.1,hB,hlt,fun e4 => ?_,fun j hj => ⟨⟨_,hc2 j _ (by rw [List.getElem?_map,List.getElem?_eq_getElem hj]; rfl)⟩,hf2 j⟩⟩
  subst e4
  exact own_apart (h3 i hi) h2 (by decide) rb (by rw [e2]; rfl) rfl
theorem Soft.set {B H:Nat} {w:World} {ao:Option Addr} {Q:List (List Int)} (h:Soft B H w ao Q) {rb g0 k:Nat} (hao:ao = some ⟨g0,0,none⟩) (hne:rb ≠ g0) (v:Value):Soft B H (w.setCell ⟨rb,k,none⟩ v) ao Q:=by
 refine ⟨fun i hi => ?_⟩
 obtain ⟨g,e,ra,rc,h1,h2⟩:=h.row i hi
 have eg:g = g0:=by rw [hao] at e; simpa using e.symm
 subst eg
 refine ⟨g,e,ra,rc,?_,fun h0 => ?_⟩
 ·
  rw [← h1]
  simp [World.cell?,((only_refl rb w).set k v).block g (fun e => hne e.symm)]
 ·
  obtain ⟨rb2,e1,e2,e3,e4,e5⟩:=h2 h0
  exact ⟨rb2,e1,e2,e3,e4,e5.set⟩
theorem Soft.kept {B H:Nat} {w w':World} {ao:Option Addr} {Q:List (List Int)} (h:Soft B H w ao Q) (hH:H≤w.heap.size) (hg:∀ g,ao = some ⟨g,0,none⟩→0 < Q.length→g < w.heap.size) (k:Kept w w'):Soft B H w' ao Q:=by
 refine ⟨fun i hi => ?_⟩
 obtain ⟨g,e,ra,rc,h1,h2⟩:=h.row i hi
 refine ⟨g,e,ra,rc,?_,fun h0 => ?_⟩
 ·
  rw [← h1,Below.cell k (p:=⟨g,i,none⟩) (hg g e (by omega))]
 ·
  obtain ⟨rb2,e1,e2,e3,e4,e5⟩:=h2 h0
  exact ⟨rb2,e1,e2,e3,e4,e5.block (k.block rb2 (by omega))⟩
theorem elimS_len (P:List (List Int)) (r k:Int) (h:P.length≤1000000):(elimS P r k).1.length≤1000000∧∀ l ∈ (elimS P r k).1,l.length≤1000000:=by
 unfold elimS
 by_cases hok:okP P = true
 ·
  rw [if_pos hok]
  by_cases hh:hasM P.length (mP P) r k = true
  ·
   rw [if_pos hh]
   exact ⟨by rw [thinP_len]; exact h,thin_rows (okP_len hok)⟩
  ·
   rw [if_neg hh]
   exact ⟨by decide,fun l hl => by cases hl⟩
 ·
  rw [if_neg hok]
  exact ⟨by decide,fun l hl => by cases hl⟩
theorem orderS_len (P:List (List Int)):(orderS P).length≤48:=by
 by_cases hok:okP P = true
 ·
  have h1:=(order_fits hok).2.1
  have h2:=okP_len hok
  omega
 ·
  unfold orderS; rw [if_neg hok]; decide
set_option maxRecDepth 100000 in
set_option maxHeartbeats 16000000 in
theorem tells13_any (ao:Option Addr) (n c:Nat) (P:List (List Int)) (r k:Int) (w:World) (h:PatR w (.slice ao n c) P) :
  Calls Try.prog 3 #[.slice ao n c,.agg #[.int .i64 r,.int .i64 k]] w fun e w' => Kept w w'∧e = .returned (.bool true):=by
 have HN:=hid h.len
 have HL:=hid h
 clear h
 have kA:=(Kept.refl w).alloc (.cells #[.int .i64 r,.int .i64 k] 24)
 have rA:=RowL.alloc 24 w [.int .i64 r,.int .i64 k]
 obtain ⟨x,hx⟩:∃ x,(costS P r k).1 = x:=⟨_,rfl⟩
 obtain ⟨y,hy⟩:∃ x,(costS P r k).2 = x:=⟨_,rfl⟩
 obtain ⟨o,ho⟩:∃ x,bestS P = x:=⟨_,rfl⟩
 obtain ⟨z,hz⟩:∃ x,chkP P = x:=⟨_,rfl⟩
 have HX:=hid (And.intro hx (And.intro hy (And.intro ho hz)))
 clear hx hy ho hz
 go_enter Try.func3,Try.ntmps3
 go_upto_region 1 with fail
 generalize w.alloc (.cells #[.int .i64 r,.int .i64 k] 24) = W0 at kA rA ⊢
 obtain ⟨q0,hq0⟩:∃ q,q = w.heap.size:=⟨_,rfl⟩
 rw [← hq0] at rA ⊢
 have HA:=hid (And.intro kA rA)
 clear kA rA hq0
 go_wp2_with fail
 refine (awake13_any _).mono ?_
 rintro e w1 ⟨hk,rfl⟩
 have HA:=hid (And.intro (HA.out.1.trans hk) (HA.out.2.kept hk))
 clear hk
 go_wp2_with fail
 refine (wide_any ao n c P _ (HL.out.kept HA.out.1)).mono ?_
 rintro e w2 ⟨rfl,b,rfl,hb⟩
 cases b with
 | true =>
  go_wp2_with fail
  go_ret
  exact ⟨HA.out.1,rfl⟩
 | false =>
  obtain ⟨hn,hr⟩:=hb rfl
  have HR6:=hid (fun l hl => Nat.le_trans (hr l hl) (show 60≤1000000 by omega))
  clear hb hr
  go_wp2_with fail
  --%A
  refine (copy13_any ao n c P _ (HL.out.kept HA.out.1) (by omega) HR6.out).mono ?_
  rintro e w3 ⟨hk,v,rfl,hC⟩
  obtain ⟨va,vc,hv⟩:=hC.shape
  rw [← HN.out] at hv
  subst hv
  have HA:=hid (And.intro (HA.out.1.trans hk) (And.intro (HA.out.2.kept hk) hC.pat))
  clear hk hC
  have d0:=HA.out.2.1.cell 0 _
  have d1:=HA.out.2.1.cell 1 _
  go_wp2_with fail
  --%B
  refine (sp_cost va n vc P r k _ HA.out.2.2 (by omega) HR6.out).mono ?_
  rintro e w4 ⟨hk,rfl⟩
  rw [HX.out.1,HX.out.2.1]
  clear d0 d1
  have HA:=hid (And.intro (HA.out.1.trans hk) (And.intro (HA.out.2.1.kept hk) (HA.out.2.2.kept hk)))
  clear hk
  have d0:=HA.out.2.1.cell 0 _
  have d1:=HA.out.2.1.cell 1 _
  go_wp2_with fail
  refine (rcost_any ao n c P r k _ (HL.out.kept HA.out.1) (by omega) HR6.out).mono ?_
  rintro e w5 ⟨hk,rfl⟩
  rw [HX.out.1,HX.out.2.1]
  clear d0 d1
  have HA:=hid (And.intro (HA.out.1.trans hk) (And.intro (HA.out.2.1.kept hk) (HA.out.2.2.kept hk)))
  clear hk
  go_wp2_with fail
  refine (sp_best va n vc P _ HA.out.2.2 (by omega) HR6.out).mono ?_
  rintro e w6 ⟨hk,rfl⟩
  rw [HX.out.2.2.1,HX.out.2.2.2]
  have HA:=hid (And.intro (HA.out.1.trans hk) (And.intro (HA.out.2.1.kept hk) (HA.out.2.2.kept hk)))
  clear hk
  go_wp2_with fail
  refine (rbest_any ao n c P _ (HL.out.kept HA.out.1) (by omega) HR6.out).mono ?_
  rintro e w7 ⟨hk,rfl⟩
  rw [HX.out.2.2.1,HX.out.2.2.2]
  have HA:=hid (And.intro (HA.out.1.trans hk) (And.intro (HA.out.2.1.kept hk) (HA.out.2.2.kept hk)))
  clear hk
  generalize rO o = o1
  generalize cO o = o2
  generalize o.isSome = o3
  have d0:=HA.out.2.1.cell 0 _
  have d1:=HA.out.2.1.cell 1 _
  go_wp2_with fail
  --%C
  refine (sp_elim va n vc P r k _ HA.out.2.2 (by omega) HR6.out).mono ?_
  rintro e w8 ⟨hk,v,rfl,hQ⟩
  clear d0 d1
  have HQL:=hid (elimS_len P r k (by have:=HN.out; omega))
  obtain ⟨Q,hQe⟩:∃ Q,(elimS P r k).1 = Q:=⟨_,rfl⟩
  obtain ⟨y2,hy2⟩:∃ y,(elimS P r k).2 = y:=⟨_,rfl⟩
  have HE:=hid (And.intro hQe hy2)
  rw [hQe] at hQ HQL
  rw [hy2]
  clear hQe hy2
  obtain ⟨qa,qc,rfl⟩:=hQ.shape
  obtain ⟨m,hm⟩:∃ m,m = Q.length:=⟨_,rfl⟩
  have hQ:PatU w7.heap.size w8 (.slice qa m qc) Q:=by rw [hm]; exact hQ
  rw [← hm]
  have hml:m≤1000000:=by rw [hm]; exact HQL.out.1
  have HM:=hid hm
  clear hm
  obtain ⟨B,hB⟩:∃ B,B = w7.heap.size:=⟨_,rfl⟩
  obtain ⟨H,hH⟩:∃ H,H = w8.heap.size:=⟨_,rfl⟩
  have HQ:=hid (And.intro (show PatR w8 (.slice qa m qc) Q from hQ.pat) (show Soft B H w8 qa Q by rw [hB,hH]; exact hQ.soft))
  have HQG:=hid (show ∀ g,qa = some ⟨g,0,none⟩→0 < m→g < H by
   intro g e h0
   subst e
   rw [hH]
   obtain ⟨_,_,h2,_⟩:=hQ
   exact (World.ownsRow.lt h2 g rfl).2)
  have HA8:=hid (And.intro hk (And.intro hB hH))
  have HB7:=hid HA.out
  have HA:=hid (And.intro (HA.out.1.trans hk) (And.intro (HA.out.2.1.kept hk) (HA.out.2.2.kept hk)))
  clear hk hQ hB hH
  have d0:=HA.out.2.1.cell 0 _
  have d1:=HA.out.2.1.cell 1 _
  go_wp2_with fail
  --%D
  refine (relim_any ao n c P r k _ (HL.out.kept HA.out.1) (by omega) HR6.out).mono ?_
  rintro e w9 ⟨hk,v,rfl,hT⟩
  rw [HE.out.1] at hT
  rw [HE.out.2]
  clear d0 d1
  obtain ⟨ta,tc,rfl⟩:=hT.shape
  rw [← HM.out] at hT ⊢
  have HT:=hid (And.intro (hT.mono (B':=H) (by rw [HA8.out.2.2]; exact Nat.le_refl _)) hk)
  have HA:=hid (And.intro (HA.out.1.trans hk) (And.intro (HA.out.2.1.kept hk) (HA.out.2.2.kept hk)))
  have HQ9:=hid (HQ.out.1.kept hk)
  clear hk hT
  go_wp2_with fail
  refine (sp_order va n vc P _ HA.out.2.2 (by omega) HR6.out).mono ?_
  rintro e w10 ⟨hk,v,u,rfl,hv,hu,_⟩
  rw [HX.out.2.2.2]
  have hol:=orderS_len P
  obtain ⟨l1,hl1⟩:∃ l,fstI (orderS P) = l:=⟨_,rfl⟩
  obtain ⟨l2,hl2⟩:∃ l,sndI (orderS P) = l:=⟨_,rfl⟩
  have hb1:l1.length≤48:=by rw [← hl1]; unfold fstI; rw [List.length_map]; exact hol
  have hb2:l2.length≤48:=by rw [← hl2]; unfold sndI; rw [List.length_map]; exact hol
  have HO:=hid (And.intro hl1 hl2)
  rw [hl1] at hv
  rw [hl2] at hu
  clear hl1 hl2 hol
  obtain ⟨m1,hm1⟩:∃ m,m = l1.length:=⟨_,rfl⟩
  obtain ⟨m2,hm2⟩:∃ m,m = l2.length:=⟨_,rfl⟩
  obtain ⟨va1,vc1,rfl⟩:=own_shape hv
  obtain ⟨ua1,uc1,rfl⟩:=own_shape hu
  have hv1:=OwnI.isl hv
  have hu1:=OwnI.isl hu
  rw [← hm1] at hv1 hb1 ⊢
  rw [← hm2] at hu1 hb2 ⊢
  have HV:=hid (And.intro hv1 hu1)
  have HMM:=hid (And.intro hm1 hm2)
  have HA:=hid (And.intro (HA.out.1.trans hk) (And.intro (HA.out.2.1.kept hk) (HA.out.2.2.kept hk)))
  have HT:=hid (And.intro (HT.out.1.kept hk) (HT.out.2.trans hk))
  have HQ9:=hid (HQ9.out.kept hk)
  clear hk hv hu hv1 hu1 hm1 hm2
  go_wp2_with fail
  --%E
  refine (rorder_any ao n c P _ (HL.out.kept HA.out.1) (by omega) HR6.out).mono ?_
  rintro e w11 ⟨hk,v,u,rfl,hv,hu,_⟩
  rw [HX.out.2.2.2]
  rw [HO.out.1] at hv
  rw [HO.out.2] at hu
  obtain ⟨va2,vc2,rfl⟩:=own_shape hv
  obtain ⟨ua2,uc2,rfl⟩:=own_shape hu
  have hv1:=OwnI.isl hv
  have hu1:=OwnI.isl hu
  rw [← HMM.out.1] at hv1 ⊢
  rw [← HMM.out.2] at hu1 ⊢
  have HV:=hid (And.intro (HV.out.1.kept hk) (And.intro (HV.out.2.kept hk) (And.intro hv1 hu1)))
  have HA:=hid (And.intro (HA.out.1.trans hk) (And.intro (HA.out.2.1.kept hk) (HA.out.2.2.kept hk)))
  have HT:=hid (And.intro (HT.out.1.kept hk) (HT.out.2.trans hk))
  have HQ9:=hid (HQ9.out.kept hk)
  clear hk hv hu hv1 hu1
  go_wp2_with fail
  --%F
  refine (same_any qa m qc ta tc Q _ HQ9.out HT.out.1.pat hml HQL.out.2).mono ?_
  rintro e w12 ⟨hk,rfl⟩
  have HV:=hid (And.intro (HV.out.1.kept hk) (And.intro (HV.out.2.1.kept hk) (And.intro (HV.out.2.2.1.kept hk) (HV.out.2.2.2.kept hk))))
  have HA:=hid (And.intro (HA.out.1.trans hk) (And.intro (HA.out.2.1.kept hk) (HA.out.2.2.kept hk)))
  have HT:=hid (And.intro (HT.out.1.kept hk) (HT.out.2.trans hk))
  clear hk HQ9
  go_wp2_with fail
  refine (ints_any va1 m1 vc1 va2 vc2 l1 _ HV.out.1 HV.out.2.2.1 (by omega)).mono ?_
  rintro e w13 ⟨hk,rfl⟩
  have HV:=hid (And.intro (HV.out.2.1.kept hk) (HV.out.2.2.2.kept hk))
  have HA:=hid (And.intro (HA.out.1.trans hk) (And.intro (HA.out.2.1.kept hk) (HA.out.2.2.kept hk)))
  have HT:=hid (And.intro (HT.out.1.kept hk) (HT.out.2.trans hk))
  clear hk
  go_wp2_with fail
  refine (ints_any ua1 m2 uc1 ua2 uc2 l2 _ HV.out.1 HV.out.2 (by omega)).mono ?_
  rintro e w14 ⟨hk,rfl⟩
  have HA:=hid (And.intro (HA.out.1.trans hk) (And.intro (HA.out.2.1.kept hk) (HA.out.2.2.kept hk)))
  have HT:=hid (And.intro (HT.out.1.kept hk) (HT.out.2.trans hk))
  clear hk HV
  go_wp2_with fail
  --%G
  refine (sp_check va n vc P _ HA.out.2.2 (by omega) HR6.out).mono ?_
  rintro e w15 ⟨hk,rfl⟩
  rw [HX.out.2.2.2]
  have HA:=hid (And.intro (HA.out.1.trans hk) (And.intro (HA.out.2.1.kept hk) (HA.out.2.2.kept hk)))
  have HT:=hid (And.intro (HT.out.1.kept hk) (HT.out.2.trans hk))
  clear hk
  go_wp2_with fail
  refine (rcheck_any ao n c P _ (HL.out.kept HA.out.1) (by omega) HR6.out).mono ?_
  rintro e w16 ⟨hk,rfl⟩
  rw [HX.out.2.2.2]
  have HT:=hid (And.intro (HT.out.1.kept hk) (HT.out.2.trans hk))
  clear hk HA
  go_wp2_with fail
  --%H
  have HS:=hid (And.intro (frm_refl B H w16) (HQ.out.2.kept (by rw [HA8.out.2.2]; exact Nat.le_refl _) (fun g e h0 => by rw [← HA8.out.2.2]; exact HQG.out g e (by have:=HM.out; omega)) HT.out.2))
  clear HQ HQG
  go_loopw [165] (fun v165 wr => ∃ (i:Nat),i≤m∧v165 = .int .i64 (i:Int)∧Hid (Frm B H w16 wr∧Soft B H wr qa Q)) (fun v165 _ => m - (intOf v165).toNat)
  case atStart => exact ⟨0,Nat.zero_le _,rfl,HS.out⟩
  case round =>
   clear HS
   obtain ⟨i,hil,rfl,HF⟩:=hrel
   by_cases hit:i < m
   ·
    have hii:(i:Int) < (m:Int):=by omega
    have hi0:(0:Int)≤(i:Int):=by omega
    have hiL:i < Q.length:=by have:=HM.out; omega
    obtain ⟨g,rfl,ra,rc,c1,_⟩:=HF.out.2.row i hiL
    have hrl:(Q.getD i []).length≤1000000:=HQL.out.2 _ (by rw [List.getD_eq_getElem?_getD,List.getElem?_eq_getElem hiL]; exact List.getElem_mem hiL)
    obtain ⟨rl,hrle⟩:∃ r,r = (Q.getD i []).length:=⟨_,rfl⟩
    rw [← hrle] at c1 hrl
    have HRL:=hid hrle
    clear hrle
    go_wp2_with fail
    --%I
    go_loopw [173] (fun v173 wr => ∃ (j:Nat),j≤rl∧v173 = .int .i64 (j:Int)∧Hid (Frm B H w16 wr∧Soft B H wr (some ⟨g,0,none⟩) Q)) (fun v173 _ => rl - (intOf v173).toNat)
    case atStart => exact ⟨0,Nat.zero_le _,rfl,HF.out⟩
    case round =>
     clear HF c1
     obtain ⟨j,hjl,rfl,HF⟩:=hrel
     by_cases hjt:j < rl
     ·
      have hjj:(j:Int) < (rl:Int):=by omega
      have hj0:(0:Int)≤(j:Int):=by omega
      obtain ⟨g2,e,ra2,rc2,c1,hin⟩:=HF.out.2.row i hiL
      simp only [Option.some.injEq,Addr.mk.injEq,and_true] at e
      obtain ⟨rb,rfl,hb1',hb2',hne,hRm⟩:=hin (by rw [← HRL.out]; omega)
      rw [← e] at c1 hne
      rw [← HRL.out] at c1 hRm
      obtain ⟨⟨u0,c2⟩,f2⟩:=hRm j hjt
      have HS:=hid (And.intro (HF.out.1.set hb1' hb2' j (.int .i64 (-1))) (HF.out.2.set (k:=j) rfl hne (.int .i64 (-1))))
      clear hin hRm hb1' hb2' hne e HF
      --%J
      go_wp2_with fail
      go_roundw
      case rel => exact ⟨j + 1,by omega,by go_num,HS.out⟩
      case measure => show rl - ((j:Int) + 1).toNat < rl - (j:Int).toNat; omega
     ·
      have hjj:¬ (j:Int) < (rl:Int):=by omega
      go_wp2_with fail
      go_roundw
      case rel => exact ⟨i + 1,by omega,by go_num,HF.out⟩
      case measure => show m - ((i:Int) + 1).toNat < m - (i:Int).toNat; omega
   ·
    have hii:¬ (i:Int) < (m:Int):=by omega
    have hk7:Kept w7 wr:=HF.out.1.kept w7 (HA8.out.1.trans HT.out.2) (by rw [HA8.out.2.1]; exact Nat.le_refl _)
    have HA:=hid (And.intro (HB7.out.1.trans hk7) (And.intro (HB7.out.2.1.kept hk7) (HB7.out.2.2.kept hk7)))
    have HT2:=hid (HT.out.1.above HF.out.1.above)
    clear hk7 HF HB7
    have d0:=HA.out.2.1.cell 0 _
    have d1:=HA.out.2.1.cell 1 _
    go_wp2_with fail
    --%K
    refine (sp_elim va n vc P r k _ HA.out.2.2 (by omega) HR6.out).mono ?_
    rintro e w17 ⟨hk,v,rfl,hQ⟩
    rw [HE.out.1] at hQ
    rw [HE.out.2]
    clear d0 d1
    obtain ⟨sa,sc,rfl⟩:=hQ.shape
    rw [← HM.out] at hQ ⊢
    have HS:=hid (And.intro hQ.pat (HT2.out.kept hk).pat)
    have HA:=hid (And.intro (HA.out.1.trans hk) (HA.out.2.2.kept hk))
    clear hk hQ
    go_wp2_with fail
    refine (same_any sa m sc ta tc Q _ HS.out.1 HS.out.2 hml HQL.out.2).mono ?_
    rintro e w18 ⟨hk,rfl⟩
    have HA:=hid (And.intro (HA.out.1.trans hk) (HA.out.2.kept hk))
    clear hk
    go_wp2_with fail
    refine (same_any va n vc ao c P _ HA.out.2 (HL.out.kept HA.out.1) (by omega) HR6.out).mono ?_
    rintro e w19 ⟨hk,rfl⟩
    have HA:=hid (HA.out.1.trans hk)
    clear hk
    go_wp2_with fail
    go_ret
    exact ⟨HA.out,rfl⟩
end Sp
end Go.Proofs.Ytlciijlgiknljaa

/- shuntref09.Ints of equal lists; rows that a literal makes; shuntlaw13.awake. shuntlaw13: wide, SparseFills, SparseBest. Patterns that an elimination leaves, as lists; orders that fit: the mathematics of SparseOrders. Rows that grow in any order; shuntlaw13.turned. SparseTurned: its mathematics and its walk. -/
import Derived.Test.YtlciijlgiknljaaGag
import Derived.Test.YtlciijlgiknljaaGae
namespace Go.Proofs.Ytlciijlgiknljaa
open Go.RowKit
open V (RowL RowL.alloc RowL.lt RowL.cell RowL.fz RowL.kept RowL.block RowL.set RowL.far)
namespace Sp
set_option maxRecDepth 100000 in
set_option maxHeartbeats 8000000 in
theorem ints_any (a1:Option Addr) (n c1:Nat) (a2:Option Addr) (c2:Nat) (l:List Int) (w:World) (h1:ISl w (.slice a1 n c1) l) (h2:ISl w (.slice a2 n c2) l) (hn:n≤1000000) :
  Calls Try.prog 21 #[.slice a1 n c1,.slice a2 n c2] w fun e w' => Kept w w'∧e = .returned (.bool true):=by
 have hl:=h1.len
 have HL:=hid (And.intro h1 (And.intro h2 hl))
 clear h1 h2 hl
 go_enter Try.func21,Try.ntmps21
 go_wp2_with fail
 go_loopw [5] (fun v5 wr => ∃ (i:Nat),i≤n∧v5 = .int .i64 (i:Int)∧Hid (Kept w wr)) (fun v5 _ => n - (intOf v5).toNat)
 case atStart => exact ⟨0,Nat.zero_le _,rfl,Kept.refl _⟩
 case round =>
  obtain ⟨i,hi,rfl,H⟩:=hrel
  by_cases hit:i < n
  ·
   have hii:(i:Int) < (n:Int):=by omega
   have hi0:(0:Int)≤(i:Int):=by omega
   have HK:=hid (H.out.trans (Kept.refl wr).drew)
   have hiL:i < l.length:=by have:=HL.out.2.2; omega
   obtain ⟨b1,o1,rfl,hd1⟩:=HL.out.1.at hiL
   obtain ⟨b2,o2,rfl,hd2⟩:=HL.out.2.1.at hiL
   have k1:=hd1 _ HK.out
   have k2:=hd2 _ HK.out
   clear hd1 hd2
   generalize l.getD i 0 = x at k1 k2
   go_upto_region 6 with fail
   refine wp_region_held_drew (S:=fun w' => w'.cell? ⟨b1,o1 + i,none⟩ = some (.int .i64 x)∧w'.cell? ⟨b2,o2 + i,none⟩ = some (.int .i64 x)) (by kernel_rfl) ⟨k1,k2⟩ (fun hHeld => ?_)
   clear k1 k2
   generalize wr.drew = Wd at HK hHeld ⊢
   refine tk 0 hHeld ?_
   refine tk 1 hHeld ?_
   refine tk 2 hHeld ?_
   refine tk 3 hHeld ?_
   refine tk 4 hHeld ?_
   refine tk 5 hHeld ?_
   refine tk 6 hHeld ?_
   refine tk 7 hHeld ?_
   refine tk 8 hHeld ?_
   refine _root_.Go.Proofs.Ytlciijlgiknljaa.dn ?_
   clear hHeld
   go_wp2_with fail
   go_roundw
   case rel => exact ⟨i + 1,by omega,by go_num,HK.out⟩
   case measure => show n - ((i:Int) + 1).toNat < n - (i:Int).toNat; omega
  ·
   have hii:¬ (i:Int) < (n:Int):=by omega
   go_wp2_with fail
   go_ret
   exact ⟨H.out,rfl⟩
theorem isl_row {w:World} {p n c:Nat} {l:List Int} (h:RowL 3 w p (l.map (Value.int .i64))) (hn:n = l.length):ISl w (.slice (some ⟨p,0,none⟩) n c) l:=by
 subst hn
 refine ⟨_,_,rfl,fun _ => ⟨p,0,rfl,h.lt,fun j hj => ?_⟩⟩
 rw [Nat.zero_add]
 refine h.cell j _ ?_
 rw [List.getElem?_map,List.getD_eq_getElem?_getD,List.getElem?_eq_getElem hj]
 rfl
theorem isl_nil {w:World}:ISl w (.slice none 0 0) []:=⟨none,0,rfl,fun h => absurd h (by decide)⟩
theorem pat_row {w:World} {q n c:Nat} {hs:List Value} {P:List (List Int)} (h:RowL 41 w q hs) (hn:n = P.length) (hr:∀ i,i < P.length→∃ ra rc,hs[i]? = some (.slice ra (P.getD i []).length rc)∧ISl w (.slice ra (P.getD i []).length rc) (P.getD i [])):PatR w (.slice (some ⟨q,0,none⟩) n c) P:=by
 subst hn
 refine ⟨_,_,rfl,fun _ => ⟨q,0,rfl,h.lt,fun i hi => ?_⟩⟩
 obtain ⟨ra,rc,h1,h2⟩:=hr i hi
 refine ⟨ra,rc,?_,h2⟩
 rw [Nat.zero_add]
 exact h.cell i _ h1
def pA:List (List Int):=[[0,1,2],[0,1],[0,2]]
theorem pA_len:∀ l ∈ pA,l.length≤1000000:=by decide
theorem a_order:orderS pA = [(1,1),(0,0),(2,2)]:=by kernel_rfl
theorem a_chk:chkP pA = 0:=by kernel_rfl
theorem a_fill:fillS pA [0,1,2] [0,1,2] = (2,0):=by kernel_rfl
theorem a_elim:elimS pA 1 1 = ([[0,2],[],[0,2]],0):=by kernel_rfl
theorem a_best:bestS pA = some (1,1):=by kernel_rfl
theorem a_cost:costS pA 0 0 = (4,0):=by kernel_rfl
theorem a_bad:chkP [[1]] = 130:=by kernel_rfl
theorem alloc_size (w:World) (o:Obj):(w.alloc o).heap.size = w.heap.size + 1:=by simp
theorem lit3 (w:World) (x1 x2 x3:List Int):Kept w ((((w.alloc (.cells (x1.map (Value.int .i64)).toArray 3)).alloc (.cells (x2.map (Value.int .i64)).toArray 3)).alloc (.cells (x3.map (Value.int .i64)).toArray 3)).alloc (.cells #[.slice (some ⟨w.heap.size,0,none⟩) x1.length x1.length,.slice (some ⟨w.heap.size + 1,0,none⟩) x2.length x2.length,.slice (some ⟨w.heap.size + 1 + 1,0,none⟩) x3.length x3.length] 41)) ∧
  PatR ((((w.alloc (.cells (x1.map (Value.int .i64)).toArray 3)).alloc (.cells (x2.map (Value.int .i64)).toArray 3)).alloc (.cells (x3.map (Value.int .i64)).toArray 3)).alloc (.cells #[.slice (some ⟨w.heap.size,0,none⟩) x1.length x1.length,.slice (some ⟨w.heap.size + 1,0,none⟩) x2.length x2.length,.slice (some ⟨w.heap.size + 1 + 1,0,none⟩) x3.length x3.length] 41)) (.slice (some ⟨w.heap.size + 1 + 1 + 1,0,none⟩) 3 3) [x1,x2,x3]:=by
 have r1:=RowL.alloc 3 w (x1.map (Value.int .i64))
 have k1:=(Kept.refl w).alloc (.cells (x1.map (Value.int .i64)).toArray 3)
 have s1:=alloc_size w (.cells (x1.map (Value.int .i64)).toArray 3)
 generalize w.alloc (.cells (x1.map (Value.int .i64)).toArray 3) = W1 at r1 k1 s1 ⊢
 have r2:=RowL.alloc 3 W1 (x2.map (Value.int .i64))
 have k2:=(Kept.refl W1).alloc (.cells (x2.map (Value.int .i64)).toArray 3)
 have s2:=alloc_size W1 (.cells (x2.map (Value.int .i64)).toArray 3)
 generalize W1.alloc (.cells (x2.map (Value.int .i64)).toArray 3) = W2 at r2 k2 s2 ⊢
 have r3:=RowL.alloc 3 W2 (x3.map (Value.int .i64))
 have k3:=(Kept.refl W2).alloc (.cells (x3.map (Value.int .i64)).toArray 3)
 have s3:=alloc_size W2 (.cells (x3.map (Value.int .i64)).toArray 3)
 generalize W2.alloc (.cells (x3.map (Value.int .i64)).toArray 3) = W3 at r3 k3 s3 ⊢
 have r4:=RowL.alloc 41 W3 [.slice (some ⟨w.heap.size,0,none⟩) x1.length x1.length,.slice (some ⟨w.heap.size + 1,0,none⟩) x2.length x2.length,.slice (some ⟨w.heap.size + 1 + 1,0,none⟩) x3.length x3.length]
 have k4:=(Kept.refl W3).alloc (.cells #[.slice (some ⟨w.heap.size,0,none⟩) x1.length x1.length,.slice (some ⟨w.heap.size + 1,0,none⟩) x2.length x2.length,.slice (some ⟨w.heap.size + 1 + 1,0,none⟩) x3.length x3.length] 41)
 rw [s3,s2,s1] at r4
 rw [s2,s1] at r3
 rw [s1] at r2
 refine ⟨((k1.trans k2).trans k3).trans k4,pat_row r4 rfl (fun i hi => ?_)⟩
 match i,hi with
 | 0,_ => exact ⟨_,_,rfl,isl_row (((r1.kept k2).kept k3).kept k4) rfl⟩
 | 1,_ => exact ⟨_,_,rfl,isl_row ((r2.kept k3).kept k4) rfl⟩
 | 2,_ => exact ⟨_,_,rfl,isl_row (r3.kept k4) rfl⟩
theorem lit2 (w:World) (x1 x2:List Int):Kept w (((w.alloc (.cells (x1.map (Value.int .i64)).toArray 3)).alloc (.cells (x2.map (Value.int .i64)).toArray 3)).alloc (.cells #[.slice (some ⟨w.heap.size,0,none⟩) x1.length x1.length,.slice none 0 0,.slice (some ⟨w.heap.size + 1,0,none⟩) x2.length x2.length] 41)) ∧
  PatR (((w.alloc (.cells (x1.map (Value.int .i64)).toArray 3)).alloc (.cells (x2.map (Value.int .i64)).toArray 3)).alloc (.cells #[.slice (some ⟨w.heap.size,0,none⟩) x1.length x1.length,.slice none 0 0,.slice (some ⟨w.heap.size + 1,0,none⟩) x2.length x2.length] 41)) (.slice (some ⟨w.heap.size + 1 + 1,0,none⟩) 3 3) [x1,[],x2]:=by
 have r1:=RowL.alloc 3 w (x1.map (Value.int .i64))
 have k1:=(Kept.refl w).alloc (.cells (x1.map (Value.int .i64)).toArray 3)
 have s1:=alloc_size w (.cells (x1.map (Value.int .i64)).toArray 3)
 generalize w.alloc (.cells (x1.map (Value.int .i64)).toArray 3) = W1 at r1 k1 s1 ⊢
 have r2:=RowL.alloc 3 W1 (x2.map (Value.int .i64))
 have k2:=(Kept.refl W1).alloc (.cells (x2.map (Value.int .i64)).toArray 3)
 have s2:=alloc_size W1 (.cells (x2.map (Value.int .i64)).toArray 3)
 generalize W1.alloc (.cells (x2.map (Value.int .i64)).toArray 3) = W2 at r2 k2 s2 ⊢
 have r4:=RowL.alloc 41 W2 [.slice (some ⟨w.heap.size,0,none⟩) x1.length x1.length,.slice none 0 0,.slice (some ⟨w.heap.size + 1,0,none⟩) x2.length x2.length]
 have k4:=(Kept.refl W2).alloc (.cells #[.slice (some ⟨w.heap.size,0,none⟩) x1.length x1.length,.slice none 0 0,.slice (some ⟨w.heap.size + 1,0,none⟩) x2.length x2.length] 41)
 rw [s2,s1] at r4
 rw [s1] at r2
 refine ⟨(k1.trans k2).trans k4,pat_row r4 rfl (fun i hi => ?_)⟩
 match i,hi with
 | 0,_ => exact ⟨_,_,rfl,isl_row ((r1.kept k2).kept k4) rfl⟩
 | 1,_ => exact ⟨_,_,rfl,isl_nil⟩
 | 2,_ => exact ⟨_,_,rfl,isl_row (r2.kept k4) rfl⟩
theorem lit1 (w:World) (x1:List Int):Kept w ((w.alloc (.cells (x1.map (Value.int .i64)).toArray 3)).alloc (.cells #[.slice (some ⟨w.heap.size,0,none⟩) x1.length x1.length] 41)) ∧
  PatR ((w.alloc (.cells (x1.map (Value.int .i64)).toArray 3)).alloc (.cells #[.slice (some ⟨w.heap.size,0,none⟩) x1.length x1.length] 41)) (.slice (some ⟨w.heap.size + 1,0,none⟩) 1 1) [x1]:=by
 have r1:=RowL.alloc 3 w (x1.map (Value.int .i64))
 have k1:=(Kept.refl w).alloc (.cells (x1.map (Value.int .i64)).toArray 3)
 have s1:=alloc_size w (.cells (x1.map (Value.int .i64)).toArray 3)
 generalize w.alloc (.cells (x1.map (Value.int .i64)).toArray 3) = W1 at r1 k1 s1 ⊢
 have r4:=RowL.alloc 41 W1 [.slice (some ⟨w.heap.size,0,none⟩) x1.length x1.length]
 have k4:=(Kept.refl W1).alloc (.cells #[.slice (some ⟨w.heap.size,0,none⟩) x1.length x1.length] 41)
 rw [s1] at r4
 refine ⟨k1.trans k4,pat_row r4 rfl (fun i hi => ?_)⟩
 match i,hi with
 | 0,_ => exact ⟨_,_,rfl,isl_row (r1.kept k4) rfl⟩
set_option maxRecDepth 100000 in
set_option maxHeartbeats 8000000 in
theorem awake13_any (w:World):Calls Try.prog 9 #[] w fun e w' => Kept w w'∧e = .returned (.bool true):=by
 have hA:=lit3 w [0,1,2] [0,1] [0,2]
 go_enter Try.func9,Try.ntmps9
 go_wp2_with fail
 --%A
 have hA:Kept w ((((w.alloc (.cells #[.int .i64 0,.int .i64 1,.int .i64 2] 3)).alloc (.cells #[.int .i64 0,.int .i64 1] 3)).alloc (.cells #[.int .i64 0,.int .i64 2] 3)).alloc (.cells #[.slice (some ⟨w.heap.size,0,none⟩) 3 3,.slice (some ⟨w.heap.size + 1,0,none⟩) 2 2,.slice (some ⟨w.heap.size + 1 + 1,0,none⟩) 2 2] 41))∧PatR ((((w.alloc (.cells #[.int .i64 0,.int .i64 1,.int .i64 2] 3)).alloc (.cells #[.int .i64 0,.int .i64 1] 3)).alloc (.cells #[.int .i64 0,.int .i64 2] 3)).alloc (.cells #[.slice (some ⟨w.heap.size,0,none⟩) 3 3,.slice (some ⟨w.heap.size + 1,0,none⟩) 2 2,.slice (some ⟨w.heap.size + 1 + 1,0,none⟩) 2 2] 41)) (.slice (some ⟨w.heap.size + 1 + 1 + 1,0,none⟩) 3 3) pA:=hA
 generalize (((w.alloc (.cells #[.int .i64 0,.int .i64 1,.int .i64 2] 3)).alloc (.cells #[.int .i64 0,.int .i64 1] 3)).alloc (.cells #[.int .i64 0,.int .i64 2] 3)).alloc (.cells #[.slice (some ⟨w.heap.size,0,none⟩) 3 3,.slice (some ⟨w.heap.size + 1,0,none⟩) 2 2,.slice (some ⟨w.heap.size + 1 + 1,0,none⟩) 2 2] 41) = W at hA ⊢
 generalize w.heap.size + 1 + 1 + 1 = q at hA ⊢
 have HA:=hid hA
 clear hA
 refine (sp_order _ 3 3 pA _ HA.out.2 (by omega) pA_len).mono ?_
 rintro e w1 ⟨hk,v,u,rfl,hv,hu,_⟩
 rw [a_order] at hv hu
 rw [a_chk]
 have HA:=hid (And.intro (HA.out.1.trans hk) (HA.out.2.kept hk))
 obtain ⟨va,vc,rfl⟩:=own_shape hv
 obtain ⟨ua,uc,rfl⟩:=own_shape hu
 have HV:=hid (And.intro (show ISl w1 (.slice va 3 vc) [1,0,2] from OwnI.isl hv) (show ISl w1 (.slice ua 3 uc) [1,0,2] from OwnI.isl hu))
 rw [show (fstI [(1,1),(0,0),(2,2)]).length = 3 from rfl,show (sndI [(1,1),(0,0),(2,2)]).length = 3 from rfl]
 clear hk hv hu
 --%B
 have r1:=RowL.alloc 3 w1 [.int .i64 0,.int .i64 1,.int .i64 2]
 have k1:=(Kept.refl w1).alloc (.cells #[.int .i64 0,.int .i64 1,.int .i64 2] 3)
 have s1:=alloc_size w1 (.cells #[.int .i64 0,.int .i64 1,.int .i64 2] 3)
 have r2:=RowL.alloc 3 (w1.alloc (.cells #[.int .i64 0,.int .i64 1,.int .i64 2] 3)) [.int .i64 0,.int .i64 1,.int .i64 2]
 have k2:=(Kept.refl (w1.alloc (.cells #[.int .i64 0,.int .i64 1,.int .i64 2] 3))).alloc (.cells #[.int .i64 0,.int .i64 1,.int .i64 2] 3)
 rw [s1] at r2
 have HF:=hid (And.intro (k1.trans k2) (And.intro (r1.kept k2) r2))
 clear r1 k1 s1 r2 k2
 go_wp2_with fail
 --%C
 refine (sp_fill _ 3 3 _ 3 3 _ 3 3 pA [0,1,2] [0,1,2] _ (HA.out.2.kept HF.out.1) (isl_row HF.out.2.1 rfl) (isl_row HF.out.2.2 rfl) (by omega) pA_len (by omega)).mono ?_
 rintro e w2 ⟨hk,rfl⟩
 rw [a_fill]
 have HA:=hid (And.intro ((HA.out.1.trans HF.out.1).trans hk) ((HA.out.2.kept HF.out.1).kept hk))
 have HV:=hid (And.intro ((HV.out.1.kept HF.out.1).kept hk) ((HV.out.2.kept HF.out.1).kept hk))
 clear hk HF
 go_wp2_with fail
 refine (sp_elim _ 3 3 pA 1 1 _ HA.out.2 (by omega) pA_len).mono ?_
 rintro e w3 ⟨hk,t,rfl,hT⟩
 rw [a_elim] at hT ⊢
 obtain ⟨ta,tc,rfl⟩:=hT.shape
 have HA:=hid (And.intro (HA.out.1.trans hk) (HA.out.2.kept hk))
 have HV:=hid (And.intro (HV.out.1.kept hk) (HV.out.2.kept hk))
 have HT:=hid (show PatR w3 (.slice ta 3 tc) [[0,2],[],[0,2]] from hT.pat)
 rw [show ([[0,2],[],[0,2]]:List (List Int)).length = 3 from rfl]
 clear hk hT
 --%D
 go_wp2_with fail
 refine (sp_best _ 3 3 pA _ HA.out.2 (by omega) pA_len).mono ?_
 rintro e w4 ⟨hk,rfl⟩
 rw [a_best,a_chk]
 have HA:=hid (And.intro (HA.out.1.trans hk) (HA.out.2.kept hk))
 have HV:=hid (And.intro (HV.out.1.kept hk) (HV.out.2.kept hk))
 have HT:=hid (HT.out.kept hk)
 clear hk
 go_wp2_with fail
 refine (sp_cost _ 3 3 pA 0 0 _ HA.out.2 (by omega) pA_len).mono ?_
 rintro e w5 ⟨hk,rfl⟩
 rw [a_cost]
 have HA:=hid (And.intro (HA.out.1.trans hk) (HA.out.2.kept hk))
 have HV:=hid (And.intro (HV.out.1.kept hk) (HV.out.2.kept hk))
 have HT:=hid (HT.out.kept hk)
 clear hk
 have r1:=RowL.alloc 3 w5 [.int .i64 1,.int .i64 0,.int .i64 2]
 have k1:=(Kept.refl w5).alloc (.cells #[.int .i64 1,.int .i64 0,.int .i64 2] 3)
 have HF:=hid (And.intro k1 r1)
 clear r1 k1
 --%E
 go_wp2_with fail
 --%F
 refine (ints_any va 3 vc _ 3 [1,0,2] _ (HV.out.1.kept HF.out.1) (isl_row HF.out.2 rfl) (by omega)).mono ?_
 rintro e w6 ⟨hk,rfl⟩
 have HA:=hid (And.intro ((HA.out.1.trans HF.out.1).trans hk) ((HA.out.2.kept HF.out.1).kept hk))
 have HV:=hid (And.intro ((HV.out.1.kept HF.out.1).kept hk) ((HV.out.2.kept HF.out.1).kept hk))
 have HT:=hid ((HT.out.kept HF.out.1).kept hk)
 clear hk HF
 go_wp2_with fail
 refine (ints_any ua 3 uc va vc [1,0,2] _ HV.out.2 HV.out.1 (by omega)).mono ?_
 rintro e w7 ⟨hk,rfl⟩
 have HK:=hid (HA.out.1.trans hk)
 have HT:=hid (HT.out.kept hk)
 clear hk HA HV
 have hB:=lit2 w7 [0,2] [0,2]
 have hB:Kept w7 (((w7.alloc (.cells #[.int .i64 0,.int .i64 2] 3)).alloc (.cells #[.int .i64 0,.int .i64 2] 3)).alloc (.cells #[.slice (some ⟨w7.heap.size,0,none⟩) 2 2,.slice none 0 0,.slice (some ⟨w7.heap.size + 1,0,none⟩) 2 2] 41))∧PatR (((w7.alloc (.cells #[.int .i64 0,.int .i64 2] 3)).alloc (.cells #[.int .i64 0,.int .i64 2] 3)).alloc (.cells #[.slice (some ⟨w7.heap.size,0,none⟩) 2 2,.slice none 0 0,.slice (some ⟨w7.heap.size + 1,0,none⟩) 2 2] 41)) (.slice (some ⟨w7.heap.size + 1 + 1,0,none⟩) 3 3) [[0,2],[],[0,2]]:=hB
 have HB:=hid hB
 clear hB
 go_wp2_with fail
 --%G
 refine (same_any ta 3 tc _ 3 [[0,2],[],[0,2]] _ (HT.out.kept HB.out.1) HB.out.2 (by omega) (by decide)).mono ?_
 rintro e w8 ⟨hk,rfl⟩
 have HK:=hid ((HK.out.trans HB.out.1).trans hk)
 clear hk HB HT
 have hB:=lit1 w8 [1]
 have hB:Kept w8 ((w8.alloc (.cells #[.int .i64 1] 3)).alloc (.cells #[.slice (some ⟨w8.heap.size,0,none⟩) 1 1] 41))∧PatR ((w8.alloc (.cells #[.int .i64 1] 3)).alloc (.cells #[.slice (some ⟨w8.heap.size,0,none⟩) 1 1] 41)) (.slice (some ⟨w8.heap.size + 1,0,none⟩) 1 1) [[1]]:=hB
 have HB:=hid hB
 clear hB
 go_wp2_with fail
 --%H
 refine (sp_check _ 1 1 [[1]] _ HB.out.2 (by omega) (by decide)).mono ?_
 rintro e w9 ⟨hk,rfl⟩
 rw [a_bad]
 have HK:=hid ((HK.out.trans HB.out.1).trans hk)
 clear hk HB
 go_wp2_with fail
 go_ret
 exact ⟨HK.out,rfl⟩
end Sp
end Go.Proofs.Ytlciijlgiknljaa

namespace Go.Proofs.Ytlciijlgiknljaa
open Go.RowKit
open V (RowL RowL.alloc RowL.lt RowL.cell RowL.fz RowL.kept RowL.block RowL.set RowL.far)
namespace Sp
def WideIs (e:Ending) (n:Nat) (P:List (List Int)):Prop:=∃ b,e = .returned (.bool b)∧(b = false→n≤61∧∀ l ∈ P,l.length≤60)
set_option maxRecDepth 100000 in
set_option maxHeartbeats 8000000 in
theorem wide_any (ao:Option Addr) (n c:Nat) (P:List (List Int)) (w:World) (h:PatR w (.slice ao n c) P) :
  Calls Try.prog 10 #[.slice ao n c] w fun e w' => w' = w∧WideIs e n P:=by
 have hl:=h.len
 have HL:=hid (And.intro h hl)
 clear h hl
 go_enter Try.func10,Try.ntmps10
 go_wp2_with fail
 go_loopw [6] (fun v6 wr => ∃ (i:Nat),i≤n∧i≤61∧v6 = .int .i64 (i:Int)∧wr = w∧Hid (∀ j,j < i→(P.getD j []).length≤60)) (fun v6 _ => n - (intOf v6).toNat)
 case atStart => exact ⟨0,Nat.zero_le _,by omega,rfl,rfl,fun j hj => absurd hj (Nat.not_lt_zero _)⟩
 case round =>
  obtain ⟨i,hil,hi61,rfl,rfl,H⟩:=hrel
  by_cases hit:i < n
  ·
   have hii:(i:Int) < (n:Int):=by omega
   have hi0:(0:Int)≤(i:Int):=by omega
   by_cases h60:60 < i
   ·
    have h60':(60:Int) < (i:Int):=by omega
    go_wp2_with fail
    go_ret
    exact ⟨rfl,true,rfl,fun h => by cases h⟩
   ·
    have h60':¬ (60:Int) < (i:Int):=by omega
    have hiL:i < P.length:=by have:=HL.out.2; omega
    obtain ⟨b,off,rfl,ra,rc,hc,_⟩:=HL.out.1.row hiL
    have c1:=hc _ (Kept.refl _)
    have HS:=hid (fun (h:(P.getD i []).length≤60) j (hj:j < i + 1) => (show (P.getD j []).length≤60 by
     by_cases e:j < i
     ·
      exact H.out j e
     ·
      obtain rfl:j = i:=by omega
      exact h))
    clear hc
    generalize (P.getD i []).length = rl at c1 HS
    by_cases hr:60 < rl
    ·
     have hr':(60:Int) < (rl:Int):=by omega
     go_wp2_with fail
     go_ret
     exact ⟨rfl,true,rfl,fun h => by cases h⟩
    ·
     have hr':¬ (60:Int) < (rl:Int):=by omega
     go_wp2_with fail
     go_roundw
     case rel => exact ⟨i + 1,by omega,by omega,by go_num,by first | rfl | trivial,HS.out (by omega)⟩
     case measure => show n - ((i:Int) + 1).toNat < n - (i:Int).toNat; omega
  ·
   have hii:¬ (i:Int) < (n:Int):=by omega
   go_wp2_with fail
   go_ret
   refine ⟨rfl,false,rfl,fun _ => ⟨by omega,fun l hl => ?_⟩⟩
   obtain ⟨j,hj,rfl⟩:=List.getElem_of_mem hl
   have:=H.out j (by have:=HL.out.2; omega)
   rw [List.getD_eq_getElem?_getD,List.getElem?_eq_getElem hj] at this
   exact this
def cntP (P:List (List Int)) (i:Nat):Nat:=((P.take i).map List.length).sum
theorem mP_true {P:List (List Int)} {i:Nat} {x:Nat}:mP P i x = true ↔ (x:Int) ∈ P.getD i []:=by
 unfold mP
 rw [decide_eq_true_eq]
theorem cost_in {P:List (List Int)} (hok:okP P = true) {i k:Nat} (hi:i < P.length) (hk:k < P.length) (h:mP P i k = true):costS P (i:Int) (k:Int) = (cost P.length (mP P) i k,0):=by
 unfold costS
 rw [if_pos hok,if_pos]
 ·
  rfl
 ·
  unfold hasM
  rw [decide_eq_true (by omega),decide_eq_true (by omega),decide_eq_true (by omega),decide_eq_true (by omega)]
  exact h
end Sp
end Go.Proofs.Ytlciijlgiknljaa

namespace Go.Proofs.Ytlciijlgiknljaa
namespace Sp
theorem thinP_at {n i k:Nat} {m:Nat→Nat→Bool} (h:i < k):(thinP n m k).getD i [] = thinR m i n:=by
 unfold thinP
 rw [List.getD_eq_getElem?_getD,List.getElem?_map,List.getElem?_range h]
 rfl
theorem mP_thin {n i k:Nat} {m:Nat→Nat→Bool} (hi:i < n) (hk:k < n):mP (thinP n m n) i k = m i k:=by
 rw [Bool.eq_iff_iff,mP_true,thinP_at hi]
 unfold thinR
 rw [List.mem_map]
 constructor
 ·
  rintro ⟨x,hx,e⟩
  have e:x = k:=Int.ofNat.inj e
  subst e
  exact (List.mem_filter.1 hx).2
 ·
  intro h
  exact ⟨k,List.mem_filter.2 ⟨List.mem_range.2 hk,h⟩,rfl⟩
theorem rowOk_sorted {n:Nat}:∀ {l:List Nat} {last:Int},l.Pairwise (· < ·)→(∀ x ∈ l,last < (x:Int)∧x < n)→rowOk n last (l.map Int.ofNat) = true:=by
 intro l
 induction l with
 | nil => intro last _ _; rfl
 | cons x t ih =>
  intro last hp h
  have h1:=h x (List.mem_cons_self ..)
  rw [List.pairwise_cons] at hp
  show ((decide (last < (x:Int)) && decide ((x:Int) < (n:Int))) && rowOk n (x:Int) (t.map Int.ofNat)) = true
  rw [decide_eq_true h1.1,decide_eq_true (by omega),ih hp.2 (fun y hy => ⟨by have:=hp.1 y hy; omega,(h y (List.mem_cons_of_mem _ hy)).2⟩)]
  rfl
theorem okP_thin {n:Nat} {m:Nat→Nat→Bool} (hn:n≤48):okP (thinP n m n) = true:=by
 unfold okP
 rw [thinP_len,decide_eq_true hn,Bool.true_and,List.all_eq_true]
 intro l hl
 unfold thinP at hl
 obtain ⟨i,_,rfl⟩:=List.mem_map.1 hl
 unfold thinR
 refine rowOk_sorted (List.Pairwise.filter _ List.pairwise_lt_range) (fun x hx => ?_)
 have:=List.mem_range.1 (List.mem_filter.1 hx).1
 exact ⟨by omega,this⟩
theorem elim_congr {n:Nat} {m m':Nat→Nat→Bool} {r c:Nat} (hr:r < n) (hc:c < n) (h:∀ i k,i < n→k < n→m i k = m' i k):∀ i k,i < n→k < n→elim m r c i k = elim m' r c i k:=by
 intro i k hi hk
 unfold elim
 rw [h i k hi hk,h i c hi hc,h r k hr hk]
def toI (l:List (Nat × Nat)):List (Int × Int):=l.map fun q => ((q.1:Int),(q.2:Int))
end Sp
end Go.Proofs.Ytlciijlgiknljaa

namespace Go.Proofs.Ytlciijlgiknljaa
open Go.RowKit
open V (RowL RowL.alloc RowL.lt RowL.cell RowL.fz RowL.kept RowL.block RowL.set RowL.far)
namespace Sp
structure Grid (B:Nat) (w:World) (g n:Nat) (hs:Nat→Value) (L:Nat→List Int):Prop where
 base:B≤g
 row:RowL 41 w g (vrow n hs)
 own:∀ j,j < n→OwnI B w (hs j) (L j)
 apart:∀ j k,j < n→k < n→j ≠ k→∀ b,(hs j).ownBlock = some b→(hs k).ownBlock ≠ some b
theorem Grid.kept {B:Nat} {w w':World} {g n:Nat} {hs:Nat→Value} {L:Nat→List Int} (h:Grid B w g n hs L) (k:Kept w w'):Grid B w' g n hs L :=
 ⟨h.base,h.row.kept k,fun j hj => own_keptK (h.own j hj) k,h.apart⟩
theorem Grid.congr {B:Nat} {w:World} {g n:Nat} {hs:Nat→Value} {L L':Nat→List Int} (h:Grid B w g n hs L) (e:∀ j,j < n→L j = L' j):Grid B w g n hs L' :=
 ⟨h.base,h.row,fun j hj => by rw [← e j hj]; exact h.own j hj,h.apart⟩
theorem Grid.push {B:Nat} {w W w5:World} {g n c:Nat} {hs:Nat→Value} {L:Nat→List Int} {x:Int} {G cap:Nat} (h:Grid B w g n hs L) (hc:c < n) (kA:Kept w W)
  (hO:w5.ownsRow B 3 1 (.slice (some ⟨G,0,none⟩) ((L c).length + 1) cap) ((L c).length + 1) ((L c).map (Value.int .i64) ++ [.int .i64 x])) (hgr:W.grownBy w5 (hs c).ownBlock) (hG:(hs c).ownBlock = some G ∨ G = W.heap.size) :
  Grid B (w5.setCell ⟨g,c,none⟩ (.slice (some ⟨G,0,none⟩) ((L c).length + 1) cap)) g n (fun j => if j = c then .slice (some ⟨G,0,none⟩) ((L c).length + 1) cap else hs j) (fun j => if j = c then L c ++ [x] else L j):=by
 have hW:=h.kept kA
 have hne:(hs c).ownBlock ≠ some g:=own_row (hW.own c hc) hW.row (by decide)
 have r5:RowL 41 w5 g (vrow n hs):=hW.row.block (hgr.block g hW.row.lt (fun e => hne e.symm))
 have o5:∀ j,j < n→j ≠ c→OwnI B w5 (hs j) (L j):=fun j hj e => own_kept (hW.own j hj) (fun b hb => hgr.block b (World.ownsRow.lt (hW.own j hj) b hb).2 (fun e' => hW.apart j c hj hc e b hb e'.symm))
 have hset:∀ {v:Value} {l:List Int} (V:Value),OwnI B w5 v l→OwnI B (w5.setCell ⟨g,c,none⟩ V) v l:=fun {v l} V ho => own_kept ho (fun b hb => ((only_refl g w5).set c V).block b (fun e => own_row ho r5 (by decide) (by rw [← e]; exact hb)))
 refine ⟨h.base,?_,fun j hj => ?_,fun j k hj hk hjk b hb => ?_⟩
 ·
  have:=r5.set c (.slice (some ⟨G,0,none⟩) ((L c).length + 1) cap)
  rw [vrow_set] at this
  exact this
 ·
  by_cases e:j = c
  ·
   rw [if_pos e,if_pos e]
   exact hset _ (OwnI.snoc hO)
  ·
   rw [if_neg e,if_neg e]
   exact hset _ (o5 j hj e)
 ·
  have key:∀ i,i < n→i ≠ c→(hs i).ownBlock ≠ some G:=by
   intro i hi e he
   rcases hG with hG | hG
   ·
    exact hW.apart i c hi hc e G he hG
   ·
    have:=(World.ownsRow.lt (hW.own i hi) G he).2
    omega
  by_cases e:j = c
  ·
   rw [if_pos e] at hb
   rw [if_neg (fun e' => hjk (by rw [e,e']))]
   have hb:G = b:=by simpa [Value.ownBlock] using hb
   rw [← hb]
   exact key k hk (fun e' => hjk (by rw [e,e']))
  ·
   rw [if_neg e] at hb
   by_cases e':k = c
   ·
    rw [if_pos e']
    intro h2
    have h2:G = b:=by simpa [Value.ownBlock] using h2
    exact key j hj e (by rw [h2]; exact hb)
   ·
    rw [if_neg e']
    exact hW.apart j k hj hk hjk b hb
theorem Grid.pat {B:Nat} {w:World} {g n c:Nat} {hs:Nat→Value} {L:Nat→List Int} (h:Grid B w g n hs L):PatR w (.slice (some ⟨g,0,none⟩) n c) ((List.range n).map L):=by
 refine ⟨_,c,by rw [List.length_map,List.length_range],fun _ => ⟨g,0,rfl,h.row.lt,fun i hi => ?_⟩⟩
 rw [List.length_map,List.length_range] at hi
 rw [show ((List.range n).map L).getD i [] = L i by rw [List.getD_eq_getElem?_getD,List.getElem?_map,List.getElem?_range hi]; rfl]
 obtain ⟨ra,rc,e⟩:=own_shape (h.own i hi)
 have h4:=(h.own i hi).isl
 rw [e] at h4
 refine ⟨ra,rc,?_,h4⟩
 rw [Nat.zero_add,← e]
 exact h.row.cell i _ (vrow_at hi)
theorem make_intss {n:Nat} (hn:n≤1000000) (u:World):(Instr.makeSlice 22 (.int .i64 (n:Int)) (.int .i64 (n:Int))).run Try.prog u = .ok (.slice (some ⟨u.heap.size,0,none⟩) n n) (u.alloc (.cells (vrow n fun _ => .slice none 0 0).toArray 41)):=by
 obtain ⟨i0,hi,hz0,hz1,hz2⟩:=info_parts info_ints
 have h:=run_make (P:=Try.prog) u 22 41 i0 (.slice none 0 0) und_intss hi hz0 .i64 .i64 (n:Int) (n:Int) (by omega) (Int.le_refl _) (by rw [hz2]; omega) (by omega)
 rw [Int.toNat_natCast,hz1,made_row _ rfl] at h
 exact h
theorem grid_new {n:Nat} (w:World) {B:Nat} (hB:B≤w.heap.size):Grid B (w.alloc (.cells (vrow n fun _ => .slice none 0 0).toArray 41)) w.heap.size n (fun _ => .slice none 0 0) (fun _ => []) :=
 ⟨hB,RowL.alloc 41 w _,fun _ _ => World.ownsRow_nil _ _ _ _,fun _ _ _ _ _ _ hb => by cases hb⟩
def tU (P:List (List Int)) (i k:Nat):Nat→List Int:=fun c => thinR (tr (mP P)) c i ++ if mT (P.getD i []) k c = true then [(i:Int)] else []
theorem tU_zero (P:List (List Int)) (c:Nat):[] = tU P 0 0 c:=by
 unfold tU mT thinR
 simp
theorem tU_row {P:List (List Int)} {i k:Nat} (hk:(P.getD i []).length≤k) (c:Nat):tU P i k c = tU P (i + 1) 0 c:=by
 unfold tU
 rw [thinR_step]
 have e1:mT (P.getD i []) k c = tr (mP P) c i:=by
  unfold mT tr mP
  rw [List.take_of_length_le hk]
 have e2:mT (P.getD (i + 1) []) 0 c = false:=by unfold mT; simp
 rw [e1,e2]
 cases tr (mP P) c i <;> simp
theorem sorted_at {n:Nat}:∀ {l:List Int} {last:Int},rowOk n last l = true→∀ k,k < l.length→l.getD k 0 ∉ l.take k:=by
 intro l
 induction l with
 | nil => intro last _ k hk; exact absurd hk (Nat.not_lt_zero _)
 | cons y t ih =>
  intro last h k hk hm
  unfold rowOk at h
  rw [Bool.and_eq_true] at h
  cases k with
  | zero => rw [List.take_zero] at hm; cases hm
  | succ k =>
   have hk':k < t.length:=by rw [List.length_cons] at hk; omega
   rw [List.getD_cons_succ,List.take_succ_cons] at hm
   rcases List.mem_cons.1 hm with e | hm
   ·
    have:=rowOk_mem h.2 (t.getD k 0) (by rw [List.getD_eq_getElem?_getD,List.getElem?_eq_getElem hk']; exact List.getElem_mem hk')
    omega
   ·
    exact ih h.2 k hk' hm
theorem tU_step {P:List (List Int)} {n i k x:Nat} (hok:rowOk n (-1) (P.getD i []) = true) (hk:k < (P.getD i []).length) (hx:(P.getD i []).getD k 0 = (x:Int)) (c:Nat):(if c = x then tU P i k x ++ [(i:Int)] else tU P i k c) = tU P i (k + 1) c:=by
 have h1:=congrFun (mT_step hk hx) c
 have h1:(if c = x then true else mT (P.getD i []) k c) = mT (P.getD i []) (k + 1) c:=h1
 have h2:mT (P.getD i []) k x = false:=by
  unfold mT
  rw [decide_eq_false]
  rw [← hx]
  exact sorted_at hok k hk
 unfold tU
 rw [← h1]
 by_cases e:c = x
 ·
  rw [if_pos e,if_pos e,if_pos rfl,e,h2]
  simp
 ·
  rw [if_neg e,if_neg e]
set_option maxRecDepth 100000 in
set_option maxHeartbeats 8000000 in
theorem turned_any (ao:Option Addr) (n c:Nat) (P:List (List Int)) (w:World) (h:PatR w (.slice ao n c) P) (hok:okP P = true) :
  Calls Try.prog 26 #[.slice ao n c] w fun e w' => Kept w w'∧∃ v,e = .returned v∧(∃ va vc,v = .slice va n vc)∧PatR w' v (thinP n (tr (mP P)) n):=by
 have hl:=h.len
 have hn:n≤48:=by have:=okP_len hok; omega
 have hmk:=make_intss (n:=n) (by omega)
 obtain ⟨i1,hj,hy0,hy1,hy2⟩:=info_parts info_i64
 have HL:=hid (And.intro h (And.intro hl hok))
 have kA:=(Kept.refl w).alloc (.cells (vrow n fun _ => .slice none 0 0).toArray 41)
 have rA:=grid_new (n:=n) w (Nat.le_refl _)
 clear h hl hok
 go_enter Try.func26,Try.ntmps26
 go_upto_region 2 with fail
 --%A
 generalize w.alloc (.cells (vrow n fun _ => .slice none 0 0).toArray 41) = W at kA rA ⊢
 obtain ⟨B,hB⟩:∃ B,B = w.heap.size:=⟨_,rfl⟩
 rw [← hB] at rA ⊢
 obtain ⟨q,hq⟩:∃ q,q = B:=⟨_,rfl⟩
 have rA:Grid B W q n (fun _ => .slice none 0 0) (fun _ => []):=by rw [hq]; exact rA
 rw [← hq]
 have HG:=hid (And.intro hB (show w.heap.size≤q by omega))
 have HQ:=hid (And.intro kA (rA.congr (fun j _ => tU_zero P j)))
 clear kA rA hq hB
 go_wp2_with fail
 go_loopw [13] (fun v13 wr => ∃ (i:Nat),i≤n∧v13 = .int .i64 (i:Int)∧Hid (Kept w wr∧∃ hs,Grid B wr q n hs (tU P i 0))) (fun v13 _ => n - (intOf v13).toNat)
 case atStart => exact ⟨0,Nat.zero_le _,rfl,HQ.out.1,_,HQ.out.2⟩
 case round =>
  clear HQ
  obtain ⟨i,hil,rfl,H⟩:=hrel
  by_cases hit:i < n
  ·
   have hii:(i:Int) < (n:Int):=by omega
   have hi0:(0:Int)≤(i:Int):=by omega
   have hiL:i < P.length:=by have:=HL.out.2.1; omega
   obtain ⟨b,off,rfl,ra,rc,hc,hI⟩:=HL.out.1.row hiL
   have c1:=hc _ H.out.1
   have HI:=hid hI
   have HM:=hid (fun x hx => okP_mem HL.out.2.2 hiL x hx)
   have hlen:(P.getD i []).length≤n:=by
    have h1:=rowOk_long (okP_row HL.out.2.2 hiL) (by omega)
    have h2:=HL.out.2.1
    omega
   obtain ⟨row,hrow⟩:∃ r,r = P.getD i []:=⟨_,rfl⟩
   rw [← hrow] at c1 HI HM hlen
   obtain ⟨rl,hrl⟩:∃ r,r = row.length:=⟨_,rfl⟩
   rw [← hrl] at c1 HI hlen
   have HR:=hid (And.intro hrl hrow)
   clear hc hI hrl hrow
   go_wp2_with fail
   --%C
   go_loopw [20] (fun v20 wr => ∃ (k:Nat),k≤rl∧v20 = .int .i64 (k:Int)∧Hid (Kept w wr∧∃ hs,Grid B wr q n hs (tU P i k))) (fun v20 _ => rl - (intOf v20).toNat)
   case atStart => exact ⟨0,Nat.zero_le _,rfl,H.out⟩
   case round =>
    clear H c1
    obtain ⟨k,hkl,rfl,K⟩:=hrel
    by_cases hkt:k < rl
    ·
     have hkk:(k:Int) < (rl:Int):=by omega
     have hk0:(0:Int)≤(k:Int):=by omega
     have hkL:k < row.length:=by have:=HR.out.1; omega
     obtain ⟨b2,o2,rfl,hd⟩:=HI.out.at hkL
     obtain ⟨hKw,hs,hGr⟩:=K.out
     have c2:=hd _ hKw
     have hm:=HM.out (row.getD k 0) (by rw [List.getD_eq_getElem?_getD,List.getElem?_eq_getElem hkL]; exact List.getElem_mem hkL)
     obtain ⟨x,hx⟩:=Int.eq_ofNat_of_zero_le hm.1
     have hxn:x < n:=by have:=HL.out.2.1; omega
     have hxi:(x:Int) < (n:Int):=by omega
     have hx0:(0:Int)≤(x:Int):=by omega
     have HS:=hid (fun c => tU_step (n:=P.length) (okP_row HL.out.2.2 hiL) (show k < (P.getD i []).length by rw [← HR.out.2]; exact hkL) (show (P.getD i []).getD k 0 = (x:Int) by rw [← HR.out.2]; exact hx) c)
     rw [hx] at c2
     have hll:(tU P i k x).length≤49:=by
      unfold tU
      rw [List.length_append]
      have:=thinR_len (tr (mP P)) x i
      split
      ·
       show _ + 1≤49; omega
      ·
       show _ + 0≤49; omega
     obtain ⟨va,vc,hv⟩:=own_shape (hGr.own x hxn)
     have c3:wr.cell? ⟨q,x,none⟩ = some (hs x):=hGr.row.cell x _ (vrow_at hxn)
     rw [hv] at c3
     have HGr:=hid (And.intro hKw (And.intro hGr hv))
     have hOx:=hid (show OwnI B wr (.slice va (tU P i k x).length vc) (tU P i k x) by rw [← hv]; exact hGr.own x hxn)
     have hsz:B≤wr.heap.size:=by rw [HG.out.1]; exact hKw.size
     obtain ⟨l,hl⟩:∃ l,l = tU P i k x:=⟨_,rfl⟩
     have HLL:=hid hl
     rw [← hl] at c3 hOx hll
     clear hd hm hx hGr hKw hv K hl
     --%D
     go_wp2_with (at_builtin; refine wpList_append_lies _ rfl (.tmp 29) (.tmp 31) 41 rfl B 3 i1 (.int .i64 0) 1 8 und_ints hj hy0 hy1 hy2 rfl (by decide) (.slice va l.length vc) l.length (l.map (Value.int .i64)) rfl (by exact World.ownsRow.alloc hOx.out _) ⟨wr.heap.size,0,none⟩ 1 1 [.int .i64 (i:Int)] rfl rfl (cell_new wr _ _) (fun u hu => by simp at hu; subst hu; rfl) (by omega) (by unfold maxLen; omega) (by omega) (by simp; omega) _ rfl ?_)
     intro G cap w5 hO hgr hG _
     have kA:=(Kept.refl wr).alloc (.cells #[.int .i64 (i:Int)] 3)
     have hWs:=alloc_size wr (.cells #[.int .i64 (i:Int)] 3)
     rw [← hWs] at hG
     generalize wr.alloc (.cells #[.int .i64 (i:Int)] 3) = W5 at kA hgr hG
     have hOw:W5.ownsRow B 3 1 (.slice va l.length vc) l.length (l.map (Value.int .i64)):=own_keptK hOx.out kA
     have KW:Kept w w5:=Below.grown (HGr.out.1.trans kA) hgr (HGr.out.1.trans kA).size (fun k hk => by rw [← HG.out.1]; exact (World.ownsRow.lt hOw k hk).1)
     have hP:=HGr.out.2.1.push (x:=(i:Int)) (G:=G) (cap:=cap) hxn kA (by rw [← HLL.out]; exact hO) (by rw [HGr.out.2.2,← HLL.out]; exact hgr) (by rw [HGr.out.2.2,← HLL.out]; exact hG)
     rw [← HLL.out] at hP
     have hW5g:w5.frozen? ⟨q,x,none⟩ = false:=by
      have hne:(Value.slice va l.length vc).ownBlock ≠ some q:=own_row hOw (HGr.out.2.1.row.kept kA) (by decide)
      exact ((HGr.out.2.1.row.kept kA).block (hgr.block q (HGr.out.2.1.row.kept kA).lt (fun e => hne e.symm))).fz x
     have hW5c:w5.cell? ⟨q,x,none⟩ = some (.slice va l.length vc):=by
      have hne:(Value.slice va l.length vc).ownBlock ≠ some q:=own_row hOw (HGr.out.2.1.row.kept kA) (by decide)
      have:=((HGr.out.2.1.row.kept kA).block (hgr.block q (HGr.out.2.1.row.kept kA).lt (fun e => hne e.symm))).cell x _ (vrow_at hxn)
      rw [this,HGr.out.2.2,← HLL.out]
     have HQ:=hid (And.intro (KW.setCell (p:=⟨q,x,none⟩) HG.out.2 (.slice (some ⟨G,0,none⟩) (l.length + 1) cap)) (hP.congr (L':=tU P i (k + 1)) (fun j _ => by rw [← HS.out j,HLL.out])))
     clear kA hgr hG hOw KW hP hO HGr hOx HS c3 hWs
     --%E
     go_wp2_with fail
     go_roundw
     case rel => exact ⟨k + 1,by omega,by go_num,HQ.out.1,_,HQ.out.2⟩
     case measure => show rl - ((k:Int) + 1).toNat < rl - (k:Int).toNat; omega
    ·
     have hkk:¬ (k:Int) < (rl:Int):=by omega
     have HE:=hid (fun c => tU_row (P:=P) (i:=i) (k:=k) (by rw [← HR.out.2,← HR.out.1]; omega) c)
     go_wp2_with fail
     go_roundw
     case rel => exact ⟨i + 1,by omega,by go_num,K.out.1,by obtain ⟨hs,hg⟩:=K.out.2; exact ⟨hs,hg.congr (fun j _ => HE.out j)⟩⟩
     case measure => show n - ((i:Int) + 1).toNat < n - (i:Int).toNat; omega
  ·
   have hii:¬ (i:Int) < (n:Int):=by omega
   obtain rfl:i = n:=by omega
   go_wp2_with fail
   go_ret
   refine ⟨H.out.1,_,rfl,⟨_,_,rfl⟩,?_⟩
   obtain ⟨hs,hg⟩:=H.out.2
   have:=(hg.congr (L':=fun c => thinR (tr (mP P)) c i) (fun j _ => by unfold tU; rw [show mT (P.getD i []) 0 j = false by unfold mT; simp]; simp)).pat (c:=i)
   exact this
end Sp
end Go.Proofs.Ytlciijlgiknljaa

namespace Go.Proofs.Ytlciijlgiknljaa
open Go.RowKit
namespace Sp
theorem cost_congr {n:Nat} {m m':Nat→Nat→Bool} {r c:Nat} (hr:r < n) (hc:c < n) (h:∀ i k,i < n→k < n→m i k = m' i k):cost n m r c = cost n m' r c:=by
 unfold cost rowL colL
 rw [List.filter_congr fun k hk => h r k hr (List.mem_range.1 hk),List.filter_congr fun i hi => h i c (List.mem_range.1 hi) hc]
theorem fillC_congr {n:Nat} {m m':Nat→Nat→Bool} {r c:Nat} (hr:r < n) (hc:c < n) (h:∀ i k,i < n→k < n→m i k = m' i k):fillC n m r c = fillC n m' r c:=by
 unfold fillC
 congr 1
 refine List.map_congr_left fun i hi => ?_
 have hi:=List.mem_range.1 hi
 congr 1
 refine List.filter_congr fun k hk => ?_
 have hk:=List.mem_range.1 hk
 rw [h i k hi hk,h i c hi hc,h r k hr hk]
theorem hasM_tr {n:Nat} {m m':Nat→Nat→Bool} (h:∀ i k,i < n→k < n→m' i k = m k i) (r k:Int):hasM n m' k r = hasM n m r k:=by
 unfold hasM
 by_cases h1:0≤r
 ·
  by_cases h2:r < (n:Int)
  ·
   by_cases h3:0≤k
   ·
    by_cases h4:k < (n:Int)
    ·
     rw [h k.toNat r.toNat (by omega) (by omega),decide_eq_true h1,decide_eq_true h2,decide_eq_true h3,decide_eq_true h4]
    ·
     rw [decide_eq_false h4]; simp
   ·
    rw [decide_eq_false h3]; simp
  ·
   rw [decide_eq_false h2]; simp
 ·
  rw [decide_eq_false h1]; simp
theorem fillGo_tr {n:Nat} (l:List (Int × Int)):∀ (m m':Nat→Nat→Bool) (all:Nat),(∀ i k,i < n→k < n→m' i k = m k i)→fillGo n m' (l.map fun q => (q.2,q.1)) all = fillGo n m l all:=by
 induction l with
 | nil => intro m m' all _; rfl
 | cons q t ih =>
  intro m m' all h
  show (if hasM n m' q.2 q.1 = true then fillGo n (elim m' q.2.toNat q.1.toNat) (t.map fun q => (q.2,q.1)) (all + fillC n m' q.2.toNat q.1.toNat) else (0,1)) = (if hasM n m q.1 q.2 = true then fillGo n (elim m q.1.toNat q.2.toNat) t (all + fillC n m q.1.toNat q.2.toNat) else (0,1))
  rw [hasM_tr h]
  cases hh:hasM n m q.1 q.2 with
  | false => rfl
  | true =>
   rw [if_pos rfl,if_pos rfl]
   obtain ⟨r',k',e1,e2,h1,h2,_⟩:=hasM_in hh
   rw [e1,e2,Int.toNat_natCast,Int.toNat_natCast]
   have hc:fillC n m' k' r' = fillC n m r' k':=by
    rw [fillC_congr h2 h1 (m':=tr m) (fun i k hi hk => h i k hi hk),tr_fill]
   rw [hc]
   refine ih _ _ _ (fun i k hi hk => ?_)
   have e3:=congrFun (congrFun (tr_elim m r' k') i) k
   have e4:=elim_congr h2 h1 (m':=tr m) (fun i k hi hk => h i k hi hk) i k hi hk
   rw [e4,e3]
   rfl
theorem zip_turn:∀ (a b:List Int),b.zip a = (a.zip b).map fun q => (q.2,q.1)
 | [],[] => rfl
 | [],_ :: _ => rfl
 | _ :: _,[] => rfl
 | x :: a,y :: b => by
  show (y,x) :: b.zip a = (y,x) :: _
  rw [zip_turn a b]
  rfl
theorem turned_fill {P:List (List Int)} {n:Nat} (hok:okP P = true) (hn:n = P.length) (rows cols:List Int):fillS (thinP n (tr (mP P)) n) cols rows = fillS P rows cols:=by
 have h48:=okP_len hok
 unfold fillS
 rw [if_pos hok,if_pos (okP_thin (by omega)),thinP_len,← hn]
 by_cases e:rows.length = cols.length
 ·
  rw [if_pos e,if_pos e.symm,zip_turn rows cols,fillGo_tr]
  exact fun i k hi hk => mP_thin hi hk
 ·
  rw [if_neg e,if_neg (fun h => e h.symm)]
theorem turned_cost {P:List (List Int)} {n i y:Nat} (hok:okP P = true) (hn:n = P.length) (hi:i < n) (hy:y < n) (h:mP P i y = true):costS (thinP n (tr (mP P)) n) (y:Int) (i:Int) = costS P (i:Int) (y:Int):=by
 have h48:=okP_len hok
 rw [cost_in hok (by omega) (by omega) h,cost_in (okP_thin (by omega)) (by rw [thinP_len]; exact hy) (by rw [thinP_len]; exact hi) (by rw [mP_thin hy hi]; exact h),thinP_len,cost_congr hy hi (m':=tr (mP P)) (fun i k hi hk => mP_thin hi hk),tr_cost,hn]
theorem thin_rows {n:Nat} {m:Nat→Nat→Bool} (hn:n≤48):∀ l ∈ thinP n m n,l.length≤1000000:=by
 intro l hl
 unfold thinP at hl
 obtain ⟨i,_,rfl⟩:=List.mem_map.1 hl
 have:=thinR_len m i n
 omega
set_option maxRecDepth 100000 in
set_option maxHeartbeats 8000000 in
theorem turned13_any (ao:Option Addr) (n c:Nat) (ra:Option Addr) (rn rc:Nat) (ka:Option Addr) (kn kc:Nat) (P:List (List Int)) (rows cols:List Int) (w:World) (h:PatR w (.slice ao n c) P) (hR:ISl w (.slice ra rn rc) rows) (hC:ISl w (.slice ka kn kc) cols) :
  Calls Try.prog 6 #[.slice ao n c,.slice ra rn rc,.slice ka kn kc] w fun e w' => Kept w w'∧e = .returned (.bool true):=by
 have HN:=hid h.len
 have HL:=hid (And.intro h (And.intro hR hC))
 clear h hR hC
 go_enter Try.func6,Try.ntmps6
 go_wp2_with fail
 refine (awake13_any _).mono ?_
 rintro e w1 ⟨hk,rfl⟩
 have HK:=hid hk
 clear hk
 go_wp2_with fail
 refine (wide_any ao n c P _ (HL.out.1.kept HK.out)).mono ?_
 rintro e w2 ⟨rfl,b,rfl,hb⟩
 cases b with
 | true =>
  go_wp2_with fail
  go_ret
  exact ⟨HK.out,rfl⟩
 | false =>
  obtain ⟨hn,hr⟩:=hb rfl
  have HR:=hid hr
  have HR6:=hid (fun l hl => Nat.le_trans (hr l hl) (show 60≤1000000 by omega))
  clear hb hr
  go_wp2_with fail
  refine (rcheck_any ao n c P _ (HL.out.1.kept HK.out) (by omega) HR6.out).mono ?_
  rintro e w3 ⟨hk,rfl⟩
  have HK:=hid (HK.out.trans hk)
  clear hk
  cases hok:okP P with
  | false =>
   have hc:chkP P = 130:=by unfold chkP; rw [if_neg (by rw [hok]; decide)]
   rw [hc]
   clear hc hok
   go_wp2_with fail
   go_ret
   exact ⟨HK.out,rfl⟩
  | true =>
   have hc:chkP P = 0:=by unfold chkP; rw [if_pos hok]
   have hn48:n≤48:=by have:=okP_len hok; have:=HN.out; omega
   rw [hc]
   have HOK:=hid hok
   clear hok hc
   by_cases h1:100 < rn
   ·
    have h1':(100:Int) < (rn:Int):=by omega
    go_wp2_with fail
    go_ret
    exact ⟨HK.out,rfl⟩
   ·
    have h1':¬ (100:Int) < (rn:Int):=by omega
    by_cases h2:100 < kn
    ·
     have h2':(100:Int) < (kn:Int):=by omega
     go_wp2_with fail
     go_ret
     exact ⟨HK.out,rfl⟩
    ·
     have h2':¬ (100:Int) < (kn:Int):=by omega
     go_wp2_with fail
     --%A
     refine (turned_any ao n c P _ (HL.out.1.kept HK.out) HOK.out).mono ?_
     rintro e w4 ⟨hk,v,rfl,⟨va,vc,rfl⟩,hQ⟩
     have HK4:=hid (HK.out.trans hk)
     have HQ:=hid hQ
     clear hk hQ HK
     go_wp2_with fail
     --%L
     go_loopw [43] (fun v43 wr => ∃ (i:Nat),i≤n∧v43 = .int .i64 (i:Int)∧Hid (Kept w4 wr)) (fun v43 _ => n - (intOf v43).toNat)
     case atStart => exact ⟨0,Nat.zero_le _,rfl,Kept.refl _⟩
     case round =>
      obtain ⟨i,hil,rfl,H⟩:=hrel
      by_cases hit:i < n
      ·
       have hii:(i:Int) < (n:Int):=by omega
       have hi0:(0:Int)≤(i:Int):=by omega
       have hiL:i < P.length:=by have:=HN.out; omega
       obtain ⟨b,off,rfl,ra1,rcp,hc,hI⟩:=HL.out.1.row hiL
       have c1:=hc _ (HK4.out.trans H.out)
       have hlen:(P.getD i []).length≤60:=HR.out _ (by rw [List.getD_eq_getElem?_getD,List.getElem?_eq_getElem hiL]; exact List.getElem_mem hiL)
       have HM:=hid (fun x hx => okP_mem HOK.out hiL x hx)
       have HMP:=hid (fun (y:Nat) (hy:(y:Int) ∈ P.getD i []) => (mP_true (P:=P)).2 hy)
       generalize P.getD i [] = row at c1 hI hlen HM HMP
       obtain ⟨rl,hrl⟩:∃ r,r = row.length:=⟨_,rfl⟩
       rw [← hrl] at c1 hI hlen
       have HI:=hid (And.intro hI hrl)
       clear hc hI hrl
       go_wp2_with fail
       --%M
       go_loopw [50] (fun v50 wr => ∃ (k:Nat),k≤rl∧v50 = .int .i64 (k:Int)∧Hid (Kept w4 wr)) (fun v50 _ => rl - (intOf v50).toNat)
       case atStart => exact ⟨0,Nat.zero_le _,rfl,H.out⟩
       case round =>
        clear H c1
        obtain ⟨k,hkl,rfl,K⟩:=hrel
        by_cases hkt:k < rl
        ·
         have hkk:(k:Int) < (rl:Int):=by omega
         have hk0:(0:Int)≤(k:Int):=by omega
         have hkL:k < row.length:=by have:=HI.out.2; omega
         obtain ⟨b2,o2,rfl,hd⟩:=HI.out.1.at hkL
         have c2:=hd _ (HK4.out.trans K.out)
         have hmem:row.getD k 0 ∈ row:=by rw [List.getD_eq_getElem?_getD,List.getElem?_eq_getElem hkL]; exact List.getElem_mem hkL
         have hm:=HM.out _ hmem
         obtain ⟨y,hy⟩:=Int.eq_ofNat_of_zero_le hm.1
         rw [hy] at c2 hmem hm
         have hyn:y < P.length:=by omega
         have hmp:=HMP.out y hmem
         have HCO:=hid (And.intro (cost_in HOK.out hiL hyn hmp) (turned_cost HOK.out HN.out hit (by have:=HN.out; omega) hmp))
         clear hd hmem hm hy hmp
         go_wp2_with fail
         refine (sp_cost _ n c P (i:Int) (y:Int) _ (HL.out.1.kept (HK4.out.trans K.out)) (by omega) HR6.out).mono ?_
         rintro e w5 ⟨hk,rfl⟩
         rw [HCO.out.1]
         have HK5:=hid (K.out.trans hk)
         clear hk K c2
         generalize hz:cost P.length (mP P) i y = z
         have HZ:=hid hz
         clear hz
         go_wp2_with fail
         --%X
         refine (sp_cost _ n vc _ (y:Int) (i:Int) _ (HQ.out.kept HK5.out) (by omega) (thin_rows hn48)).mono ?_
         rintro e w6 ⟨hk,rfl⟩
         rw [HCO.out.2,HCO.out.1,HZ.out]
         have HK6:=hid (HK5.out.trans hk)
         clear hk HK5 HCO
         go_wp2_with fail
         go_roundw
         case rel => exact ⟨k + 1,by omega,by go_num,HK6.out⟩
         case measure => show rl - ((k:Int) + 1).toNat < rl - (k:Int).toNat; omega
        ·
         have hkk:¬ (k:Int) < (rl:Int):=by omega
         go_wp2_with fail
         go_roundw
         case rel => exact ⟨i + 1,by omega,by go_num,K.out⟩
         case measure => show n - ((i:Int) + 1).toNat < n - (i:Int).toNat; omega
      ·
       have hii:¬ (i:Int) < (n:Int):=by omega
       obtain rfl:n = i:=by omega
       go_wp2_with fail
       refine (sp_fill ao n c ra rn rc ka kn kc P rows cols _ (HL.out.1.kept (HK4.out.trans H.out)) (HL.out.2.1.kept (HK4.out.trans H.out)) (HL.out.2.2.kept (HK4.out.trans H.out)) (by omega) HR6.out (by omega)).mono ?_
       rintro e w5 ⟨hk,rfl⟩
       have HK5:=hid (H.out.trans hk)
       clear hk
       have HX:=hid (turned_fill HOK.out HN.out rows cols)
       obtain ⟨x,hx⟩:∃ x,x = fillS P rows cols:=⟨_,rfl⟩
       rw [← hx] at HX ⊢
       clear hx
       go_wp2_with fail
       --%F
       refine (sp_fill va n vc ka kn kc ra rn rc _ cols rows _ (HQ.out.kept HK5.out) (HL.out.2.2.kept (HK4.out.trans HK5.out)) (HL.out.2.1.kept (HK4.out.trans HK5.out)) (by omega) (thin_rows hn48) (by omega)).mono ?_
       rintro e w6 ⟨hk,rfl⟩
       rw [HX.out]
       have HK6:=hid (HK4.out.trans (HK5.out.trans hk))
       clear hk
       obtain ⟨x1,x2⟩:=x
       go_wp2_with fail
       go_ret
       exact ⟨HK6.out,rfl⟩
end Sp
end Go.Proofs.Ytlciijlgiknljaa

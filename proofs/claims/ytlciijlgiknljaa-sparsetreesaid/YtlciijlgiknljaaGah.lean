/- shuntref09.Ints of equal lists; rows that a literal makes; shuntlaw13.awake. shuntlaw13: wide, SparseFills, SparseBest. Patterns that an elimination leaves, as lists; orders that fit: the mathematics of SparseOrders. Rows that grow in any order; shuntlaw13.turned. SparseTurned: its mathematics and its walk. SparseTree: its mathematics, squares of bools that are written over. SparseTree's walk. -/
import Derived.Test.YtlciijlgiknljaaGag
import Derived.Test.YtlciijlgiknljaaGae
namespace Go.Proofs.Ytlciijlgiknljaa
open Go.RowKit
open V (RowL RowL.alloc RowL.lt RowL.cell RowL.fz RowL.kept RowL.block RowL.set RowL.far)
namespace Sp
set_option maxRecDepth 100000 in
set_option maxHeartbeats 8000000 in
theorem ints_any (a1:Option Addr) (n c1:Nat) (a2:Option Addr) (c2:Nat) (l:List Int) (w:World) (h1:ISl w (.slice a1 n c1) l) (h2:ISl w (.slice a2 n c2) l) (hn:n≤1000000) :
  Calls Try.prog 21 #[.slice a1 n c1,.slice a2 n c2] w fun e w' => Kept w w'∧e = .returned (.bool true):=by
 have hl:=h1.len
 have HL:=hid (And.intro h1 (And.intro h2 hl))
 clear h1 h2 hl
 go_enter Try.func21,Try.ntmps21
 go_wp2_with fail
 go_loopw [5] (fun v5 wr => ∃ (i:Nat),i≤n∧v5 = .int .i64 (i:Int)∧Hid (Kept w wr)) (fun v5 _ => n - (intOf v5).toNat)
 case atStart => exact ⟨0,Nat.zero_le _,rfl,Kept.refl _⟩
 case round =>
  obtain ⟨i,hi,rfl,H⟩:=hrel
  by_cases hit:i < n
  ·
   have hii:(i:Int) < (n:Int):=by omega
   have hi0:(0:Int)≤(i:Int):=by omega
   have HK:=hid (H.out.trans (Kept.refl wr).drew)
   have hiL:i < l.length:=by have:=HL.out.2.2; omega
   obtain ⟨b1,o1,rfl,hd1⟩:=HL.out.1.at hiL
   obtain ⟨b2,o2,rfl,hd2⟩:=HL.out.2.1.at hiL
   have k1:=hd1 _ HK.out
   have k2:=hd2 _ HK.out
   clear hd1 hd2
   generalize l.getD i 0 = x at k1 k2
   go_upto_region 6 with fail
   refine wp_region_held_drew (S:=fun w' => w'.cell? ⟨b1,o1 + i,none⟩ = some (.int .i64 x)∧w'.cell? ⟨b2,o2 + i,none⟩ = some (.int .i64 x)) (by kernel_rfl) ⟨k1,k2⟩ (fun hHeld => ?_)
   clear k1 k2
   generalize wr.drew = Wd at HK hHeld ⊢
   refine tk 0 hHeld ?_
   refine tk 1 hHeld ?_
   refine tk 2 hHeld ?_
   refine tk 3 hHeld ?_
   refine tk 4 hHeld ?_
   refine tk 5 hHeld ?_
   refine tk 6 hHeld ?_
   refine tk 7 hHeld ?_
   refine tk 8 hHeld ?_
   refine _root_.Go.Proofs.Ytlciijlgiknljaa.dn ?_
   clear hHeld
   go_wp2_with fail
   go_roundw
   case rel => exact ⟨i + 1,by omega,by go_num,HK.out⟩
   case measure => show n - ((i:Int) + 1).toNat < n - (i:Int).toNat; omega
  ·
   have hii:¬ (i:Int) < (n:Int):=by omega
   go_wp2_with fail
   go_ret
   exact ⟨H.out,rfl⟩
theorem isl_row {w:World} {p n c:Nat} {l:List Int} (h:RowL 3 w p (l.map (Value.int .i64))) (hn:n = l.length):ISl w (.slice (some ⟨p,0,none⟩) n c) l:=by
 subst hn
 refine ⟨_,_,rfl,fun _ => ⟨p,0,rfl,h.lt,fun j hj => ?_⟩⟩
 rw [Nat.zero_add]
 refine h.cell j _ ?_
 rw [List.getElem?_map,List.getD_eq_getElem?_getD,List.getElem?_eq_getElem hj]
 rfl
theorem isl_nil {w:World}:ISl w (.slice none 0 0) []:=⟨none,0,rfl,fun h => absurd h (by decide)⟩
theorem pat_row {w:World} {q n c:Nat} {hs:List Value} {P:List (List Int)} (h:RowL 41 w q hs) (hn:n = P.length) (hr:∀ i,i < P.length→∃ ra rc,hs[i]? = some (.slice ra (P.getD i []).length rc)∧ISl w (.slice ra (P.getD i []).length rc) (P.getD i [])):PatR w (.slice (some ⟨q,0,none⟩) n c) P:=by
 subst hn
 refine ⟨_,_,rfl,fun _ => ⟨q,0,rfl,h.lt,fun i hi => ?_⟩⟩
 obtain ⟨ra,rc,h1,h2⟩:=hr i hi
 refine ⟨ra,rc,?_,h2⟩
 rw [Nat.zero_add]
 exact h.cell i _ h1
def pA:List (List Int):=[[0,1,2],[0,1],[0,2]]
theorem pA_len:∀ l ∈ pA,l.length≤1000000:=by decide
theorem a_order:orderS pA = [(1,1),(0,0),(2,2)]:=by kernel_rfl
theorem a_chk:chkP pA = 0:=by kernel_rfl
theorem a_fill:fillS pA [0,1,2] [0,1,2] = (2,0):=by kernel_rfl
theorem a_elim:elimS pA 1 1 = ([[0,2],[],[0,2]],0):=by kernel_rfl
theorem a_best:bestS pA = some (1,1):=by kernel_rfl
theorem a_cost:costS pA 0 0 = (4,0):=by kernel_rfl
theorem a_bad:chkP [[1]] = 130:=by kernel_rfl
theorem alloc_size (w:World) (o:Obj):(w.alloc o).heap.size = w.heap.size + 1:=by simp
theorem lit3 (w:World) (x1 x2 x3:List Int):Kept w ((((w.alloc (.cells (x1.map (Value.int .i64)).toArray 3)).alloc (.cells (x2.map (Value.int .i64)).toArray 3)).alloc (.cells (x3.map (Value.int .i64)).toArray 3)).alloc (.cells #[.slice (some ⟨w.heap.size,0,none⟩) x1.length x1.length,.slice (some ⟨w.heap.size + 1,0,none⟩) x2.length x2.length,.slice (some ⟨w.heap.size + 1 + 1,0,none⟩) x3.length x3.length] 41)) ∧
  PatR ((((w.alloc (.cells (x1.map (Value.int .i64)).toArray 3)).alloc (.cells (x2.map (Value.int .i64)).toArray 3)).alloc (.cells (x3.map (Value.int .i64)).toArray 3)).alloc (.cells #[.slice (some ⟨w.heap.size,0,none⟩) x1.length x1.length,.slice (some ⟨w.heap.size + 1,0,none⟩) x2.length x2.length,.slice (some ⟨w.heap.size + 1 + 1,0,none⟩) x3.length x3.length] 41)) (.slice (some ⟨w.heap.size + 1 + 1 + 1,0,none⟩) 3 3) [x1,x2,x3]:=by
 have r1:=RowL.alloc 3 w (x1.map (Value.int .i64))
 have k1:=(Kept.refl w).alloc (.cells (x1.map (Value.int .i64)).toArray 3)
 have s1:=alloc_size w (.cells (x1.map (Value.int .i64)).toArray 3)
 generalize w.alloc (.cells (x1.map (Value.int .i64)).toArray 3) = W1 at r1 k1 s1 ⊢
 have r2:=RowL.alloc 3 W1 (x2.map (Value.int .i64))
 have k2:=(Kept.refl W1).alloc (.cells (x2.map (Value.int .i64)).toArray 3)
 have s2:=alloc_size W1 (.cells (x2.map (Value.int .i64)).toArray 3)
 generalize W1.alloc (.cells (x2.map (Value.int .i64)).toArray 3) = W2 at r2 k2 s2 ⊢
 have r3:=RowL.alloc 3 W2 (x3.map (Value.int .i64))
 have k3:=(Kept.refl W2).alloc (.cells (x3.map (Value.int .i64)).toArray 3)
 have s3:=alloc_size W2 (.cells (x3.map (Value.int .i64)).toArray 3)
 generalize W2.alloc (.cells (x3.map (Value.int .i64)).toArray 3) = W3 at r3 k3 s3 ⊢
 have r4:=RowL.alloc 41 W3 [.slice (some ⟨w.heap.size,0,none⟩) x1.length x1.length,.slice (some ⟨w.heap.size + 1,0,none⟩) x2.length x2.length,.slice (some ⟨w.heap.size + 1 + 1,0,none⟩) x3.length x3.length]
 have k4:=(Kept.refl W3).alloc (.cells #[.slice (some ⟨w.heap.size,0,none⟩) x1.length x1.length,.slice (some ⟨w.heap.size + 1,0,none⟩) x2.length x2.length,.slice (some ⟨w.heap.size + 1 + 1,0,none⟩) x3.length x3.length] 41)
 rw [s3,s2,s1] at r4
 rw [s2,s1] at r3
 rw [s1] at r2
 refine ⟨((k1.trans k2).trans k3).trans k4,pat_row r4 rfl (fun i hi => ?_)⟩
 match i,hi with
 | 0,_ => exact ⟨_,_,rfl,isl_row (((r1.kept k2).kept k3).kept k4) rfl⟩
 | 1,_ => exact ⟨_,_,rfl,isl_row ((r2.kept k3).kept k4) rfl⟩
 | 2,_ => exact ⟨_,_,rfl,isl_row (r3.kept k4) rfl⟩
theorem lit2 (w:World) (x1 x2:List Int):Kept w (((w.alloc (.cells (x1.map (Value.int .i64)).toArray 3)).alloc (.cells (x2.map (Value.int .i64)).toArray 3)).alloc (.cells #[.slice (some ⟨w.heap.size,0,none⟩) x1.length x1.length,.slice none 0 0,.slice (some ⟨w.heap.size + 1,0,none⟩) x2.length x2.length] 41)) ∧
  PatR (((w.alloc (.cells (x1.map (Value.int .i64)).toArray 3)).alloc (.cells (x2.map (Value.int .i64)).toArray 3)).alloc (.cells #[.slice (some ⟨w.heap.size,0,none⟩) x1.length x1.length,.slice none 0 0,.slice (some ⟨w.heap.size + 1,0,none⟩) x2.length x2.length] 41)) (.slice (some ⟨w.heap.size + 1 + 1,0,none⟩) 3 3) [x1,[],x2]:=by
 have r1:=RowL.alloc 3 w (x1.map (Value.int .i64))
 have k1:=(Kept.refl w).alloc (.cells (x1.map (Value.int .i64)).toArray 3)
 have s1:=alloc_size w (.cells (x1.map (Value.int .i64)).toArray 3)
 generalize w.alloc (.cells (x1.map (Value.int .i64)).toArray 3) = W1 at r1 k1 s1 ⊢
 have r2:=RowL.alloc 3 W1 (x2.map (Value.int .i64))
 have k2:=(Kept.refl W1).alloc (.cells (x2.map (Value.int .i64)).toArray 3)
 have s2:=alloc_size W1 (.cells (x2.map (Value.int .i64)).toArray 3)
 generalize W1.alloc (.cells (x2.map (Value.int .i64)).toArray 3) = W2 at r2 k2 s2 ⊢
 have r4:=RowL.alloc 41 W2 [.slice (some ⟨w.heap.size,0,none⟩) x1.length x1.length,.slice none 0 0,.slice (some ⟨w.heap.size + 1,0,none⟩) x2.length x2.length]
 have k4:=(Kept.refl W2).alloc (.cells #[.slice (some ⟨w.heap.size,0,none⟩) x1.length x1.length,.slice none 0 0,.slice (some ⟨w.heap.size + 1,0,none⟩) x2.length x2.length] 41)
 rw [s2,s1] at r4
 rw [s1] at r2
 refine ⟨(k1.trans k2).trans k4,pat_row r4 rfl (fun i hi => ?_)⟩
 match i,hi with
 | 0,_ => exact ⟨_,_,rfl,isl_row ((r1.kept k2).kept k4) rfl⟩
 | 1,_ => exact ⟨_,_,rfl,isl_nil⟩
 | 2,_ => exact ⟨_,_,rfl,isl_row (r2.kept k4) rfl⟩
theorem lit1 (w:World) (x1:List Int):Kept w ((w.alloc (.cells (x1.map (Value.int .i64)).toArray 3)).alloc (.cells #[.slice (some ⟨w.heap.size,0,none⟩) x1.length x1.length] 41)) ∧
  PatR ((w.alloc (.cells (x1.map (Value.int .i64)).toArray 3)).alloc (.cells #[.slice (some ⟨w.heap.size,0,none⟩) x1.length x1.length] 41)) (.slice (some ⟨w.heap.size + 1,0,none⟩) 1 1) [x1]:=by
 have r1:=RowL.alloc 3 w (x1.map (Value.int .i64))
 have k1:=(Kept.refl w).alloc (.cells (x1.map (Value.int .i64)).toArray 3)
 have s1:=alloc_size w (.cells (x1.map (Value.int .i64)).toArray 3)
 generalize w.alloc (.cells (x1.map (Value.int .i64)).toArray 3) = W1 at r1 k1 s1 ⊢
 have r4:=RowL.alloc 41 W1 [.slice (some ⟨w.heap.size,0,none⟩) x1.length x1.length]
 have k4:=(Kept.refl W1).alloc (.cells #[.slice (some ⟨w.heap.size,0,none⟩) x1.length x1.length] 41)
 rw [s1] at r4
 refine ⟨k1.trans k4,pat_row r4 rfl (fun i hi => ?_)⟩
 match i,hi with
 | 0,_ => exact ⟨_,_,rfl,isl_row (r1.kept k4) rfl⟩
set_option maxRecDepth 100000 in
set_option maxHeartbeats 8000000 in
theorem awake13_any (w:World):Calls Try.prog 9 #[] w fun e w' => Kept w w'∧e = .returned (.bool true):=by
 have hA:=lit3 w [0,1,2] [0,1] [0,2]
 go_enter Try.func9,Try.ntmps9
 go_wp2_with fail
 --%A
 have hA:Kept w ((((w.alloc (.cells #[.int .i64 0,.int .i64 1,.int .i64 2] 3)).alloc (.cells #[.int .i64 0,.int .i64 1] 3)).alloc (.cells #[.int .i64 0,.int .i64 2] 3)).alloc (.cells #[.slice (some ⟨w.heap.size,0,none⟩) 3 3,.slice (some ⟨w.heap.size + 1,0,none⟩) 2 2,.slice (some ⟨w.heap.size + 1 + 1,0,none⟩) 2 2] 41))∧PatR ((((w.alloc (.cells #[.int .i64 0,.int .i64 1,.int .i64 2] 3)).alloc (.cells #[.int .i64 0,.int .i64 1] 3)).alloc (.cells #[.int .i64 0,.int .i64 2] 3)).alloc (.cells #[.slice (some ⟨w.heap.size,0,none⟩) 3 3,.slice (some ⟨w.heap.size + 1,0,none⟩) 2 2,.slice (some ⟨w.heap.size + 1 + 1,0,none⟩) 2 2] 41)) (.slice (some ⟨w.heap.size + 1 + 1 + 1,0,none⟩) 3 3) pA:=hA
 generalize (((w.alloc (.cells #[.int .i64 0,.int .i64 1,.int .i64 2] 3)).alloc (.cells #[.int .i64 0,.int .i64 1] 3)).alloc (.cells #[.int .i64 0,.int .i64 2] 3)).alloc (.cells #[.slice (some ⟨w.heap.size,0,none⟩) 3 3,.slice (some ⟨w.heap.size + 1,0,none⟩) 2 2,.slice (some ⟨w.heap.size + 1 + 1,0,none⟩) 2 2] 41) = W at hA ⊢
 generalize w.heap.size + 1 + 1 + 1 = q at hA ⊢
 have HA:=hid hA
 clear hA
 refine (sp_order _ 3 3 pA _ HA.out.2 (by omega) pA_len).mono ?_
 rintro e w1 ⟨hk,v,u,rfl,hv,hu,_⟩
 rw [a_order] at hv hu
 rw [a_chk]
 have HA:=hid (And.intro (HA.out.1.trans hk) (HA.out.2.kept hk))
 obtain ⟨va,vc,rfl⟩:=own_shape hv
 obtain ⟨ua,uc,rfl⟩:=own_shape hu
 have HV:=hid (And.intro (show ISl w1 (.slice va 3 vc) [1,0,2] from OwnI.isl hv) (show ISl w1 (.slice ua 3 uc) [1,0,2] from OwnI.isl hu))
 rw [show (fstI [(1,1),(0,0),(2,2)]).length = 3 from rfl,show (sndI [(1,1),(0,0),(2,2)]).length = 3 from rfl]
 clear hk hv hu
 --%B
 have r1:=RowL.alloc 3 w1 [.int .i64 0,.int .i64 1,.int .i64 2]
 have k1:=(Kept.refl w1).alloc (.cells #[.int .i64 0,.int .i64 1,.int .i64 2] 3)
 have s1:=alloc_size w1 (.cells #[.int .i64 0,.int .i64 1,.int .i64 2] 3)
 have r2:=RowL.alloc 3 (w1.alloc (.cells #[.int .i64 0,.int .i64 1,.int .i64 2] 3)) [.int .i64 0,.int .i64 1,.int .i64 2]
 have k2:=(Kept.refl (w1.alloc (.cells #[.int .i64 0,.int .i64 1,.int .i64 2] 3))).alloc (.cells #[.int .i64 0,.int .i64 1,.int .i64 2] 3)
 rw [s1] at r2
 have HF:=hid (And.intro (k1.trans k2) (And.intro (r1.kept k2) r2))
 clear r1 k1 s1 r2 k2
 go_wp2_with fail
 --%C
 refine (sp_fill _ 3 3 _ 3 3 _ 3 3 pA [0,1,2] [0,1,2] _ (HA.out.2.kept HF.out.1) (isl_row HF.out.2.1 rfl) (isl_row HF.out.2.2 rfl) (by omega) pA_len (by omega)).mono ?_
 rintro e w2 ⟨hk,rfl⟩
 rw [a_fill]
 have HA:=hid (And.intro ((HA.out.1.trans HF.out.1).trans hk) ((HA.out.2.kept HF.out.1).kept hk))
 have HV:=hid (And.intro ((HV.out.1.kept HF.out.1).kept hk) ((HV.out.2.kept HF.out.1).kept hk))
 clear hk HF
 go_wp2_with fail
 refine (sp_elim _ 3 3 pA 1 1 _ HA.out.2 (by omega) pA_len).mono ?_
 rintro e w3 ⟨hk,t,rfl,hT⟩
 rw [a_elim] at hT ⊢
 obtain ⟨ta,tc,rfl⟩:=hT.shape
 have HA:=hid (And.intro (HA.out.1.trans hk) (HA.out.2.kept hk))
 have HV:=hid (And.intro (HV.out.1.kept hk) (HV.out.2.kept hk))
 have HT:=hid (show PatR w3 (.slice ta 3 tc) [[0,2],[],[0,2]] from hT.pat)
 rw [show ([[0,2],[],[0,2]]:List (List Int)).length = 3 from rfl]
 clear hk hT
 --%D
 go_wp2_with fail
 refine (sp_best _ 3 3 pA _ HA.out.2 (by omega) pA_len).mono ?_
 rintro e w4 ⟨hk,rfl⟩
 rw [a_best,a_chk]
 have HA:=hid (And.intro (HA.out.1.trans hk) (HA.out.2.kept hk))
 have HV:=hid (And.intro (HV.out.1.kept hk) (HV.out.2.kept hk))
 have HT:=hid (HT.out.kept hk)
 clear hk
 go_wp2_with fail
 refine (sp_cost _ 3 3 pA 0 0 _ HA.out.2 (by omega) pA_len).mono ?_
 rintro e w5 ⟨hk,rfl⟩
 rw [a_cost]
 have HA:=hid (And.intro (HA.out.1.trans hk) (HA.out.2.kept hk))
 have HV:=hid (And.intro (HV.out.1.kept hk) (HV.out.2.kept hk))
 have HT:=hid (HT.out.kept hk)
 clear hk
 have r1:=RowL.alloc 3 w5 [.int .i64 1,.int .i64 0,.int .i64 2]
 have k1:=(Kept.refl w5).alloc (.cells #[.int .i64 1,.int .i64 0,.int .i64 2] 3)
 have HF:=hid (And.intro k1 r1)
 clear r1 k1
 --%E
 go_wp2_with fail
 --%F
 refine (ints_any va 3 vc _ 3 [1,0,2] _ (HV.out.1.kept HF.out.1) (isl_row HF.out.2 rfl) (by omega)).mono ?_
 rintro e w6 ⟨hk,rfl⟩
 have HA:=hid (And.intro ((HA.out.1.trans HF.out.1).trans hk) ((HA.out.2.kept HF.out.1).kept hk))
 have HV:=hid (And.intro ((HV.out.1.kept HF.out.1).kept hk) ((HV.out.2.kept HF.out.1).kept hk))
 have HT:=hid ((HT.out.kept HF.out.1).kept hk)
 clear hk HF
 go_wp2_with fail
 refine (ints_any ua 3 uc va vc [1,0,2] _ HV.out.2 HV.out.1 (by omega)).mono ?_
 rintro e w7 ⟨hk,rfl⟩
 have HK:=hid (HA.out.1.trans hk)
 have HT:=hid (HT.out.kept hk)
 clear hk HA HV
 have hB:=lit2 w7 [0,2] [0,2]
 have hB:Kept w7 (((w7.alloc (.cells #[.int .i64 0,.int .i64 2] 3)).alloc (.cells #[.int .i64 0,.int .i64 2] 3)).alloc (.cells #[.slice (some ⟨w7.heap.size,0,none⟩) 2 2,.slice none 0 0,.slice (some ⟨w7.heap.size + 1,0,none⟩) 2 2] 41))∧PatR (((w7.alloc (.cells #[.int .i64 0,.int .i64 2] 3)).alloc (.cells #[.int .i64 0,.int .i64 2] 3)).alloc (.cells #[.slice (some ⟨w7.heap.size,0,none⟩) 2 2,.slice none 0 0,.slice (some ⟨w7.heap.size + 1,0,none⟩) 2 2] 41)) (.slice (some ⟨w7.heap.size + 1 + 1,0,none⟩) 3 3) [[0,2],[],[0,2]]:=hB
 have HB:=hid hB
 clear hB
 go_wp2_with fail
 --%G
 refine (same_any ta 3 tc _ 3 [[0,2],[],[0,2]] _ (HT.out.kept HB.out.1) HB.out.2 (by omega) (by decide)).mono ?_
 rintro e w8 ⟨hk,rfl⟩
 have HK:=hid ((HK.out.trans HB.out.1).trans hk)
 clear hk HB HT
 have hB:=lit1 w8 [1]
 have hB:Kept w8 ((w8.alloc (.cells #[.int .i64 1] 3)).alloc (.cells #[.slice (some ⟨w8.heap.size,0,none⟩) 1 1] 41))∧PatR ((w8.alloc (.cells #[.int .i64 1] 3)).alloc (.cells #[.slice (some ⟨w8.heap.size,0,none⟩) 1 1] 41)) (.slice (some ⟨w8.heap.size + 1,0,none⟩) 1 1) [[1]]:=hB
 have HB:=hid hB
 clear hB
 go_wp2_with fail
 --%H
 refine (sp_check _ 1 1 [[1]] _ HB.out.2 (by omega) (by decide)).mono ?_
 rintro e w9 ⟨hk,rfl⟩
 rw [a_bad]
 have HK:=hid ((HK.out.trans HB.out.1).trans hk)
 clear hk HB
 go_wp2_with fail
 go_ret
 exact ⟨HK.out,rfl⟩
end Sp
end Go.Proofs.Ytlciijlgiknljaa

namespace Go.Proofs.Ytlciijlgiknljaa
open Go.RowKit
open V (RowL RowL.alloc RowL.lt RowL.cell RowL.fz RowL.kept RowL.block RowL.set RowL.far)
namespace Sp
def WideIs (e:Ending) (n:Nat) (P:List (List Int)):Prop:=∃ b,e = .returned (.bool b)∧(b = false→n≤61∧∀ l ∈ P,l.length≤60)
def cntP (P:List (List Int)) (i:Nat):Nat:=((P.take i).map List.length).sum
theorem mP_true {P:List (List Int)} {i:Nat} {x:Nat}:mP P i x = true ↔ (x:Int) ∈ P.getD i []:=by
 unfold mP
 rw [decide_eq_true_eq]
end Sp
end Go.Proofs.Ytlciijlgiknljaa

namespace Go.Proofs.Ytlciijlgiknljaa
namespace Sp
theorem thinP_at {n i k:Nat} {m:Nat→Nat→Bool} (h:i < k):(thinP n m k).getD i [] = thinR m i n:=by
 unfold thinP
 rw [List.getD_eq_getElem?_getD,List.getElem?_map,List.getElem?_range h]
 rfl
theorem mP_thin {n i k:Nat} {m:Nat→Nat→Bool} (hi:i < n) (hk:k < n):mP (thinP n m n) i k = m i k:=by
 rw [Bool.eq_iff_iff,mP_true,thinP_at hi]
 unfold thinR
 rw [List.mem_map]
 constructor
 ·
  rintro ⟨x,hx,e⟩
  have e:x = k:=Int.ofNat.inj e
  subst e
  exact (List.mem_filter.1 hx).2
 ·
  intro h
  exact ⟨k,List.mem_filter.2 ⟨List.mem_range.2 hk,h⟩,rfl⟩
theorem rowOk_sorted {n:Nat}:∀ {l:List Nat} {last:Int},l.Pairwise (· < ·)→(∀ x ∈ l,last < (x:Int)∧x < n)→rowOk n last (l.map Int.ofNat) = true:=by
 intro l
 induction l with
 | nil => intro last _ _; rfl
 | cons x t ih =>
  intro last hp h
  have h1:=h x (List.mem_cons_self ..)
  rw [List.pairwise_cons] at hp
  show ((decide (last < (x:Int)) && decide ((x:Int) < (n:Int))) && rowOk n (x:Int) (t.map Int.ofNat)) = true
  rw [decide_eq_true h1.1,decide_eq_true (by omega),ih hp.2 (fun y hy => ⟨by have:=hp.1 y hy; omega,(h y (List.mem_cons_of_mem _ hy)).2⟩)]
  rfl
theorem okP_thin {n:Nat} {m:Nat→Nat→Bool} (hn:n≤48):okP (thinP n m n) = true:=by
 unfold okP
 rw [thinP_len,decide_eq_true hn,Bool.true_and,List.all_eq_true]
 intro l hl
 unfold thinP at hl
 obtain ⟨i,_,rfl⟩:=List.mem_map.1 hl
 unfold thinR
 refine rowOk_sorted (List.Pairwise.filter _ List.pairwise_lt_range) (fun x hx => ?_)
 have:=List.mem_range.1 (List.mem_filter.1 hx).1
 exact ⟨by omega,this⟩
def toI (l:List (Nat × Nat)):List (Int × Int):=l.map fun q => ((q.1:Int),(q.2:Int))
theorem zip_fs (l:List (Nat × Nat)):(fstI l).zip (sndI l) = toI l:=by
 induction l with
 | nil => rfl
 | cons p t ih =>
  show (_ :: (fstI t).zip (sndI t)) = _
  rw [ih]
  rfl
theorem hasM_of {n:Nat} {m:Nat→Nat→Bool} {r k:Nat} (hr:r < n) (hk:k < n) (h:m r k = true):hasM n m (r:Int) (k:Int) = true:=by
 unfold hasM
 rw [decide_eq_true (by omega),decide_eq_true (by omega),decide_eq_true (by omega),decide_eq_true (by omega)]
 exact h
theorem fillGo_fits (n:Nat) (l:List (Nat × Nat)):∀ (m:Nat→Nat→Bool) (all:Nat),fitsL n m l→fillGo n m (toI l) all = (((all + fillL n m l:Nat):Int),0):=by
 induction l with
 | nil => intro m all _; rfl
 | cons p t ih =>
  intro m all h
  obtain ⟨h1,h2,h3,h4⟩:=h
  show (if hasM n m (p.1:Int) (p.2:Int) = true then fillGo n (elim m ((p.1:Int)).toNat ((p.2:Int)).toNat) (toI t) (all + fillC n m ((p.1:Int)).toNat ((p.2:Int)).toNat) else (0,1)) = _
  rw [if_pos (hasM_of h1 h2 h3),Int.toNat_natCast,Int.toNat_natCast,ih _ _ h4]
  show (((all + fillC n m p.1 p.2 + fillL n (elim m p.1 p.2) t:Nat):Int),(0:Int)) = (((all + (fillC n m p.1 p.2 + fillL n (elim m p.1 p.2) t):Nat):Int),0)
  rw [Nat.add_assoc]
theorem order_fits {P:List (List Int)} (hok:okP P = true):fitsL P.length (mP P) (orderS P)∧(orderS P).length≤P.length∧∀ i k,i < P.length→k < P.length→leftL (mP P) (orderS P) i k = false:=by
 unfold orderS
 rw [if_pos hok]
 have h:=order_ends P.length P.length (mP P) (live_le _ _)
 exact ⟨h.1,Nat.le_trans h.2.1 (live_le _ _),h.2.2⟩
theorem order_fill {P:List (List Int)} (hok:okP P = true):fillS P (fstI (orderS P)) (sndI (orderS P)) = (((fillL P.length (mP P) (orderS P):Nat):Int),0):=by
 unfold fillS
 rw [if_pos hok,if_pos (by unfold fstI sndI; rw [List.length_map,List.length_map]),zip_fs,fillGo_fits _ _ _ _ (order_fits hok).1,Nat.zero_add]
end Sp
end Go.Proofs.Ytlciijlgiknljaa

namespace Go.Proofs.Ytlciijlgiknljaa
open Go.RowKit
open V (RowL RowL.alloc RowL.lt RowL.cell RowL.fz RowL.kept RowL.block RowL.set RowL.far)
namespace Sp
structure Grid (B:Nat) (w:World) (g n:Nat) (hs:Nat→Value) (L:Nat→List Int):Prop where
 base:B≤g
 row:RowL 41 w g (vrow n hs)
 own:∀ j,j < n→OwnI B w (hs j) (L j)
 apart:∀ j k,j < n→k < n→j ≠ k→∀ b,(hs j).ownBlock = some b→(hs k).ownBlock ≠ some b
theorem Grid.kept {B:Nat} {w w':World} {g n:Nat} {hs:Nat→Value} {L:Nat→List Int} (h:Grid B w g n hs L) (k:Kept w w'):Grid B w' g n hs L :=
 ⟨h.base,h.row.kept k,fun j hj => own_keptK (h.own j hj) k,h.apart⟩
theorem Grid.congr {B:Nat} {w:World} {g n:Nat} {hs:Nat→Value} {L L':Nat→List Int} (h:Grid B w g n hs L) (e:∀ j,j < n→L j = L' j):Grid B w g n hs L' :=
 ⟨h.base,h.row,fun j hj => by rw [← e j hj]; exact h.own j hj,h.apart⟩
theorem Grid.push {B:Nat} {w W w5:World} {g n c:Nat} {hs:Nat→Value} {L:Nat→List Int} {x:Int} {G cap:Nat} (h:Grid B w g n hs L) (hc:c < n) (kA:Kept w W)
  (hO:w5.ownsRow B 3 1 (.slice (some ⟨G,0,none⟩) ((L c).length + 1) cap) ((L c).length + 1) ((L c).map (Value.int .i64) ++ [.int .i64 x])) (hgr:W.grownBy w5 (hs c).ownBlock) (hG:(hs c).ownBlock = some G ∨ G = W.heap.size) :
  Grid B (w5.setCell ⟨g,c,none⟩ (.slice (some ⟨G,0,none⟩) ((L c).length + 1) cap)) g n (fun j => if j = c then .slice (some ⟨G,0,none⟩) ((L c).length + 1) cap else hs j) (fun j => if j = c then L c ++ [x] else L j):=by
 have hW:=h.kept kA
 have hne:(hs c).ownBlock ≠ some g:=own_row (hW.own c hc) hW.row (by decide)
 have r5:RowL 41 w5 g (vrow n hs):=hW.row.block (hgr.block g hW.row.lt (fun e => hne e.symm))
 have o5:∀ j,j < n→j ≠ c→OwnI B w5 (hs j) (L j):=fun j hj e => own_kept (hW.own j hj) (fun b hb => hgr.block b (World.ownsRow.lt (hW.own j hj) b hb).2 (fun e' => hW.apart j c hj hc e b hb e'.symm))
 have hset:∀ {v:Value} {l:List Int} (V:Value),OwnI B w5 v l→OwnI B (w5.setCell ⟨g,c,none⟩ V) v l:=fun {v l} V ho => own_kept ho (fun b hb => ((only_refl g w5).set c V).block b (fun e => own_row ho r5 (by decide) (by rw [← e]; exact hb)))
 refine ⟨h.base,?_,fun j hj => ?_,fun j k hj hk hjk b hb => ?_⟩
 ·
  have:=r5.set c (.slice (some ⟨G,0,none⟩) ((L c).length + 1) cap)
  rw [vrow_set] at this
  exact this
 ·
  by_cases e:j = c
  ·
   rw [if_pos e,if_pos e]
   exact hset _ (OwnI.snoc hO)
  ·
   rw [if_neg e,if_neg e]
   exact hset _ (o5 j hj e)
 ·
  have key:∀ i,i < n→i ≠ c→(hs i).ownBlock ≠ some G:=by
   intro i hi e he
   rcases hG with hG | hG
   ·
    exact hW.apart i c hi hc e G he hG
   ·
    have:=(World.ownsRow.lt (hW.own i hi) G he).2
    omega
  by_cases e:j = c
  ·
   rw [if_pos e] at hb
   rw [if_neg (fun e' => hjk (by rw [e,e']))]
   have hb:G = b:=by simpa [Value.ownBlock] using hb
   rw [← hb]
   exact key k hk (fun e' => hjk (by rw [e,e']))
  ·
   rw [if_neg e] at hb
   by_cases e':k = c
   ·
    rw [if_pos e']
    intro h2
    have h2:G = b:=by simpa [Value.ownBlock] using h2
    exact key j hj e (by rw [h2]; exact hb)
   ·
    rw [if_neg e']
    exact hW.apart j k hj hk hjk b hb
theorem Grid.pat {B:Nat} {w:World} {g n c:Nat} {hs:Nat→Value} {L:Nat→List Int} (h:Grid B w g n hs L):PatR w (.slice (some ⟨g,0,none⟩) n c) ((List.range n).map L):=by
 refine ⟨_,c,by rw [List.length_map,List.length_range],fun _ => ⟨g,0,rfl,h.row.lt,fun i hi => ?_⟩⟩
 rw [List.length_map,List.length_range] at hi
 rw [show ((List.range n).map L).getD i [] = L i by rw [List.getD_eq_getElem?_getD,List.getElem?_map,List.getElem?_range hi]; rfl]
 obtain ⟨ra,rc,e⟩:=own_shape (h.own i hi)
 have h4:=(h.own i hi).isl
 rw [e] at h4
 refine ⟨ra,rc,?_,h4⟩
 rw [Nat.zero_add,← e]
 exact h.row.cell i _ (vrow_at hi)
theorem make_intss {n:Nat} (hn:n≤1000000) (u:World):(Instr.makeSlice 22 (.int .i64 (n:Int)) (.int .i64 (n:Int))).run Try.prog u = .ok (.slice (some ⟨u.heap.size,0,none⟩) n n) (u.alloc (.cells (vrow n fun _ => .slice none 0 0).toArray 41)):=by
 obtain ⟨i0,hi,hz0,hz1,hz2⟩:=info_parts info_ints
 have h:=run_make (P:=Try.prog) u 22 41 i0 (.slice none 0 0) und_intss hi hz0 .i64 .i64 (n:Int) (n:Int) (by omega) (Int.le_refl _) (by rw [hz2]; omega) (by omega)
 rw [Int.toNat_natCast,hz1,made_row _ rfl] at h
 exact h
def tU (P:List (List Int)) (i k:Nat):Nat→List Int:=fun c => thinR (tr (mP P)) c i ++ if mT (P.getD i []) k c = true then [(i:Int)] else []
end Sp
end Go.Proofs.Ytlciijlgiknljaa

namespace Go.Proofs.Ytlciijlgiknljaa
open Go.RowKit
namespace Sp
theorem thin_rows {n:Nat} {m:Nat→Nat→Bool} (hn:n≤48):∀ l ∈ thinP n m n,l.length≤1000000:=by
 intro l hl
 unfold thinP at hl
 obtain ⟨i,_,rfl⟩:=List.mem_map.1 hl
 have:=thinR_len m i n
 omega
end Sp
end Go.Proofs.Ytlciijlgiknljaa

namespace Go.Proofs.Ytlciijlgiknljaa
open Go.RowKit
open V (RowL RowL.alloc RowL.lt RowL.cell RowL.fz RowL.kept RowL.block RowL.set RowL.far)
namespace Sp
def parN (v:Int):Nat:=(if v < 0 then -(v + 1) else v).toNat
def par (ps:List Int) (j:Nat):Nat:=parN (ps.getD j 0) % j
def tF (ps:List Int) (i:Nat):Nat→Nat→Bool:=fun a b => (decide (2 * a < i) && (decide (1≤a) && decide (par ps (2 * a) = 2 * b + 1))) || (decide (2 * b + 1 < i) && decide (par ps (2 * b + 1) = 2 * a))
theorem par_lt (ps:List Int) {j:Nat} (h:1≤j):par ps j < j:=Nat.mod_lt _ h
theorem tF_one (ps:List Int):tF ps 1 = fun _ _ => false:=by
 funext a b
 unfold tF
 by_cases h:1≤a
 ·
  rw [decide_eq_false (show ¬ 2 * a < 1 by omega),decide_eq_false (show ¬ 2 * b + 1 < 1 by omega)]; rfl
 ·
  rw [decide_eq_false h,decide_eq_false (show ¬ 2 * b + 1 < 1 by omega)]; simp
theorem tF_even {ps:List Int} {a b:Nat} (h1:1≤a) (h:par ps (2 * a) = 2 * b + 1):∀ i k,tF ps (2 * a + 1) i k = if i = a∧k = b then true else tF ps (2 * a) i k:=by
 intro i k
 by_cases e:i = a∧k = b
 ·
  obtain ⟨rfl,rfl⟩:=e
  rw [if_pos ⟨rfl,rfl⟩]
  unfold tF
  rw [decide_eq_true (show 2 * i < 2 * i + 1 by omega),decide_eq_true h1,decide_eq_true h]; rfl
 ·
  rw [if_neg e]
  unfold tF
  by_cases ei:i = a
  ·
   subst ei
   have hk:¬ par ps (2 * i) = 2 * k + 1:=by intro h2; exact e ⟨rfl,by omega⟩
   rw [decide_eq_false hk]
   by_cases h3:2 * k + 1 < 2 * i
   ·
    rw [decide_eq_true h3,decide_eq_true (show 2 * k + 1 < 2 * i + 1 by omega)]; simp
   ·
    rw [decide_eq_false h3,decide_eq_false (show ¬ 2 * k + 1 < 2 * i + 1 by omega)]; simp
  ·
   have e1:decide (2 * i < 2 * a + 1) = decide (2 * i < 2 * a):=by
    by_cases h3:2 * i < 2 * a
    ·
     rw [decide_eq_true h3,decide_eq_true (by omega)]
    ·
     rw [decide_eq_false h3,decide_eq_false (by omega)]
   have e2:decide (2 * k + 1 < 2 * a + 1) = decide (2 * k + 1 < 2 * a):=by
    by_cases h3:2 * k + 1 < 2 * a
    ·
     rw [decide_eq_true h3,decide_eq_true (by omega)]
    ·
     rw [decide_eq_false h3,decide_eq_false (by omega)]
   rw [e1,e2]
theorem tF_odd {ps:List Int} {a b:Nat} (h:par ps (2 * b + 1) = 2 * a):∀ i k,tF ps (2 * b + 1 + 1) i k = if i = a∧k = b then true else tF ps (2 * b + 1) i k:=by
 intro i k
 by_cases e:i = a∧k = b
 ·
  obtain ⟨rfl,rfl⟩:=e
  rw [if_pos ⟨rfl,rfl⟩]
  unfold tF
  rw [decide_eq_true (show 2 * k + 1 < 2 * k + 1 + 1 by omega),decide_eq_true h]; simp
 ·
  rw [if_neg e]
  unfold tF
  have e1:decide (2 * i < 2 * b + 1 + 1) = decide (2 * i < 2 * b + 1):=by
   by_cases h3:2 * i < 2 * b + 1
   ·
    rw [decide_eq_true h3,decide_eq_true (by omega)]
   ·
    rw [decide_eq_false h3,decide_eq_false (by omega)]
  rw [e1]
  by_cases ek:k = b
  ·
   subst ek
   have hk:¬ par ps (2 * k + 1) = 2 * i:=by intro h2; exact e ⟨by omega,rfl⟩
   rw [decide_eq_false hk]; simp
  ·
   have e2:decide (2 * k + 1 < 2 * b + 1 + 1) = decide (2 * k + 1 < 2 * b + 1):=by
    by_cases h3:2 * k + 1 < 2 * b + 1
    ·
     rw [decide_eq_true h3,decide_eq_true (by omega)]
    ·
     rw [decide_eq_false h3,decide_eq_false (by omega)]
   rw [e2]
theorem tF_same {ps:List Int} {j:Nat} (h:par ps j % 2 = j % 2) (i k:Nat):tF ps (j + 1) i k = tF ps j i k:=by
 unfold tF
 have e1:(decide (2 * i < j + 1) && (decide (1≤i) && decide (par ps (2 * i) = 2 * k + 1))) = (decide (2 * i < j) && (decide (1≤i) && decide (par ps (2 * i) = 2 * k + 1))):=by
  by_cases e:2 * i = j
  ·
   subst e
   rw [decide_eq_false (show ¬ par ps (2 * i) = 2 * k + 1 by omega)]; simp
  ·
   by_cases h3:2 * i < j
   ·
    rw [decide_eq_true h3,decide_eq_true (show 2 * i < j + 1 by omega)]
   ·
    rw [decide_eq_false h3,decide_eq_false (show ¬ 2 * i < j + 1 by omega)]
 have e2:(decide (2 * k + 1 < j + 1) && decide (par ps (2 * k + 1) = 2 * i)) = (decide (2 * k + 1 < j) && decide (par ps (2 * k + 1) = 2 * i)):=by
  by_cases e:2 * k + 1 = j
  ·
   subst e
   rw [decide_eq_false (show ¬ par ps (2 * k + 1) = 2 * i by omega)]; simp
  ·
   by_cases h3:2 * k + 1 < j
   ·
    rw [decide_eq_true h3,decide_eq_true (show 2 * k + 1 < j + 1 by omega)]
   ·
    rw [decide_eq_false h3,decide_eq_false (show ¬ 2 * k + 1 < j + 1 by omega)]
 rw [e1,e2]
theorem tF_forest (ps:List Int) (i n:Nat):Forest n (tF ps i):=by
 have up:∀ a b,tF ps i a b = true→2 * b + 1 < 2 * a→par ps (2 * a) = 2 * b + 1:=by
  intro a b h hlt
  unfold tF at h
  simp only [Bool.or_eq_true,Bool.and_eq_true,decide_eq_true_eq] at h
  rcases h with h | h
  ·
   exact h.2.2
  ·
   have:=par_lt ps (show 1≤2 * b + 1 by omega)
   omega
 have dn:∀ a b,tF ps i a b = true→2 * a < 2 * b + 1→par ps (2 * b + 1) = 2 * a:=by
  intro a b h hlt
  unfold tF at h
  simp only [Bool.or_eq_true,Bool.and_eq_true,decide_eq_true_eq] at h
  rcases h with h | h
  ·
   have:=par_lt ps (show 1≤2 * a by omega)
   omega
  ·
   exact h.2
 refine ⟨fun a k k' _ _ _ h1 h2 l1 l2 => ?_,fun a a' k _ _ _ h1 h2 l1 l2 => ?_⟩
 ·
  have:=up a k h1 l1; have:=up a k' h2 l2; omega
 ·
  have:=dn a k h1 l1; have:=dn a' k h2 l2; omega
theorem forest_order {n:Nat} {m:Nat→Nat→Bool} (hn:n≤48) (hf:Forest n m):fillS (thinP n m n) (fstI (orderS (thinP n m n))) (sndI (orderS (thinP n m n))) = (0,0):=by
 have hok:okP (thinP n m n) = true:=okP_thin hn
 rw [order_fill hok]
 unfold orderS
 rw [if_pos hok,thinP_len,forest_fill n n _ (hf.sub fun i k hi hk h => by rw [mP_thin hi hk] at h; exact h)]
 rfl
theorem row_ne {w:World} {t t':TypeId} {p q:Nat} {xs ys:List Value} (h:RowL t w p xs) (h':RowL t' w q ys) (hne:t ≠ t'):p ≠ q:=by
 intro e
 subst e
 obtain ⟨c,h1,_⟩:=h
 obtain ⟨c',h2,_⟩:=h'
 rw [h1] at h2
 simp at h2
 exact hne h2.2
theorem Grid.aside {B:Nat} {w W w5:World} {g n c:Nat} {hs:Nat→Value} {L:Nat→List Int} {t:TypeId} {p:Nat} {xs:List Value} {V:Value} (h:Grid B w g n hs L) (hc:c < n) (kA:Kept w W) (hgr:W.grownBy w5 (hs c).ownBlock) (hr:RowL t w p xs) (h1:3 ≠ t) (h2:41 ≠ t):RowL t (w5.setCell ⟨g,c,none⟩ V) p xs:=by
 have hW:=h.kept kA
 have rW:=hr.kept kA
 have hne:(hs c).ownBlock ≠ some p:=own_row (hW.own c hc) rW h1
 have r5:RowL t w5 p xs:=rW.block (hgr.block p rW.lt (fun e => hne e.symm))
 exact r5.block (((only_refl g w5).set c V).block p (row_ne rW hW.row (fun e => h2 e.symm)))
structure MatF (B:Nat) (w:World) (g n:Nat) (gs:Nat→Nat) (m:Nat→Nat→Bool):Prop where
 base:∀ j,j < n→B≤gs j
 row:RowL 55 w g (vrow n fun j => .slice (some ⟨gs j,0,none⟩) n n)
 rows:∀ j,j < n→RowL 4 w (gs j) (brow n (m j))
 inj:∀ j k,j < n→k < n→gs j = gs k→j = k
theorem MatF.kept {B:Nat} {w w':World} {g n:Nat} {gs:Nat→Nat} {m:Nat→Nat→Bool} (h:MatF B w g n gs m) (k:Kept w w'):MatF B w' g n gs m :=
 ⟨h.base,h.row.kept k,fun j hj => (h.rows j hj).kept k,h.inj⟩
theorem MatF.congr {B:Nat} {w:World} {g n:Nat} {gs:Nat→Nat} {m m':Nat→Nat→Bool} (h:MatF B w g n gs m) (e:∀ i k,i < n→k < n→m i k = m' i k):MatF B w g n gs m' :=
 ⟨h.base,h.row,fun j hj => by rw [← brow_congr fun k hk => e j k hj hk]; exact h.rows j hj,h.inj⟩
theorem MatF.set {B:Nat} {w:World} {g n:Nat} {gs:Nat→Nat} {m:Nat→Nat→Bool} (h:MatF B w g n gs m) {a b:Nat} (ha:a < n):MatF B (w.setCell ⟨gs a,b,none⟩ (.bool true)) g n gs (fun i k => if i = a∧k = b then true else m i k):=by
 refine ⟨h.base,h.row.far (fun e => row_ne h.row (h.rows a ha) (by decide) e) b _,fun j hj => ?_,h.inj⟩
 by_cases e:j = a
 ·
  subst e
  have:=(h.rows j hj).set b (.bool true)
  rw [brow_set] at this
  rw [← brow_congr (f:=fun k => if k = b then true else m j k) fun k _ => by
   by_cases e2:k = b
   ·
    rw [if_pos e2,if_pos ⟨rfl,e2⟩]
   ·
    rw [if_neg e2,if_neg (fun h => e2 h.2)]]
  exact this
 ·
  rw [← brow_congr (f:=m j) fun k _ => by rw [if_neg (fun h => e h.1)]]
  exact (h.rows j hj).far (fun e2 => e (h.inj j a hj ha e2)) b _
theorem make_boolss {n:Nat} (hn:n≤1000000) (u:World):(Instr.makeSlice 54 (.int .i64 (n:Int)) (.int .i64 (n:Int))).run Try.prog u = .ok (.slice (some ⟨u.heap.size,0,none⟩) n n) (u.alloc (.cells (vrow n fun _ => .slice none 0 0).toArray 55)):=by
 obtain ⟨i0,hi,hz0,hz1,hz2⟩:=info_parts info_bools
 have h:=run_make (P:=Try.prog) u 54 55 i0 (.slice none 0 0) und_boolss hi hz0 .i64 .i64 (n:Int) (n:Int) (by omega) (Int.le_refl _) (by rw [hz2]; omega) (by omega)
 rw [Int.toNat_natCast,hz1,made_row _ rfl] at h
 exact h
structure MatP (B:Nat) (w:World) (g n i:Nat) (gs:Nat→Nat):Prop where
 base:∀ j,j < i→B≤gs j
 row:RowL 55 w g (vrow n fun j => if j < i then .slice (some ⟨gs j,0,none⟩) n n else .slice none 0 0)
 rows:∀ j,j < i→RowL 4 w (gs j) (brow n fun _ => false)
 inj:∀ j k,j < i→k < i→gs j = gs k→j = k
theorem MatP.step {B:Nat} {w:World} {g n i:Nat} {gs:Nat→Nat} (h:MatP B w g n i gs) (hB:B≤w.heap.size):MatP B ((w.alloc (.cells (brow n fun _ => false).toArray 4)).setCell ⟨g,i,none⟩ (.slice (some ⟨w.heap.size,0,none⟩) n n)) g n (i + 1) (fun j => if j = i then w.heap.size else gs j):=by
 have kA:=(Kept.refl w).alloc (.cells (brow n fun _ => false).toArray 4)
 have rA:=RowL.alloc 4 w (brow n fun _ => false)
 refine ⟨fun j hj => ?_,?_,fun j hj => ?_,fun j k hj hk e => ?_⟩
 ·
  show B≤if j = i then w.heap.size else gs j
  by_cases e:j = i
  ·
   rw [if_pos e]; exact hB
  ·
   rw [if_neg e]; exact h.base j (by omega)
 ·
  have:=(h.row.kept kA).set i (.slice (some ⟨w.heap.size,0,none⟩) n n)
  rw [vrow_set] at this
  rw [← vrow_congr (n:=n) fun j hj => ?_]
  ·
   exact this
  ·
   by_cases e:j = i
   ·
    rw [if_pos e,if_pos (by omega),if_pos e]
   ·
    rw [if_neg e]
    by_cases e2:j < i
    ·
     rw [if_pos e2,if_pos (by omega),if_neg e]
    ·
     rw [if_neg e2,if_neg (by omega)]
 ·
  have hr:RowL 4 (w.alloc (.cells (brow n fun _ => false).toArray 4)) (if j = i then w.heap.size else gs j) (brow n fun _ => false):=by
   by_cases e:j = i
   ·
    rw [if_pos e]; exact rA
   ·
    rw [if_neg e]; exact (h.rows j (by omega)).kept kA
  exact hr.far (row_ne hr (h.row.kept kA) (by decide)) i _
 ·
  have hlt:∀ x,x < i→gs x < w.heap.size:=fun x hx => (h.rows x hx).lt
  have e:(if j = i then w.heap.size else gs j) = (if k = i then w.heap.size else gs k):=e
  by_cases ej:j = i
  ·
   by_cases ek:k = i
   ·
    omega
   ·
    rw [if_pos ej,if_neg ek] at e
    have:=hlt k (by omega)
    omega
  ·
   by_cases ek:k = i
   ·
    rw [if_neg ej,if_pos ek] at e
    have:=hlt j (by omega)
    omega
   ·
    rw [if_neg ej,if_neg ek] at e
    exact h.inj j k (by omega) (by omega) e
theorem MatP.all {B:Nat} {w:World} {g n:Nat} {gs:Nat→Nat} (h:MatP B w g n n gs):MatF B w g n gs (fun _ _ => false) :=
 ⟨h.base,by have:=h.row; rw [vrow_congr (n:=n) (g:=fun j => .slice (some ⟨gs j,0,none⟩) n n) fun j hj => by rw [if_pos hj]] at this; exact this,h.rows,h.inj⟩
theorem MatP.start {w:World} {B n:Nat}:MatP B (w.alloc (.cells (vrow n fun _ => .slice none 0 0).toArray 55)) w.heap.size n 0 (fun _ => 0) :=
 ⟨fun _ hj => absurd hj (Nat.not_lt_zero _),RowL.alloc 55 w _,fun _ hj => absurd hj (Nat.not_lt_zero _),fun _ _ hj => absurd hj (Nat.not_lt_zero _)⟩
def tL (m:Nat→Nat→Bool) (n i k:Nat):Nat→List Int:=fun j => if j < i then thinR m j n else if j = i then thinR m i k else []
end Sp
end Go.Proofs.Ytlciijlgiknljaa

namespace Go.Proofs.Ytlciijlgiknljaa
open Go.RowKit
open V (RowL RowL.alloc RowL.lt RowL.cell RowL.fz RowL.kept RowL.block RowL.set RowL.far)
namespace Sp
set_option maxRecDepth 100000 in
set_option maxHeartbeats 8000000 in
theorem tree13_any (ao:Option Addr) (n0 c0:Nat) (ps:List Int) (w:World) (h:ISl w (.slice ao n0 c0) ps) (hn0:n0≤9223372036854775807) (hps:∀ x ∈ ps,-9223372036854775808≤x∧x≤9223372036854775807) :
  Calls Try.prog 7 #[.slice ao n0 c0] w fun e w' => Kept w w'∧e = .returned (.bool true):=by
 have HL:=hid (And.intro h (And.intro h.len hps))
 obtain ⟨i1,hj,hy0,hy1,hy2⟩:=info_parts info_i64
 clear h hps
 go_enter Try.func7,Try.ntmps7
 go_wp2_with fail
 refine (awake13_any _).mono ?_
 rintro e w1 ⟨hk,rfl⟩
 have HK:=hid hk
 clear hk
 go_upto_region 3 with fail
 go_upto_region 4 with fail
 obtain ⟨N,hN,hN40,hNn⟩:∃ N:Nat,(if (40:Int) < (n0:Int) then 40 else (n0:Int)) = (N:Int)∧N≤40∧N≤n0:=by
  by_cases e:(40:Int) < (n0:Int)
  ·
   exact ⟨40,by rw [if_pos e]; rfl,by omega,by omega⟩
  ·
   exact ⟨n0,by rw [if_neg e],by omega,by omega⟩
 rw [hN]
 clear hN
 obtain ⟨n,hn⟩:∃ n,n = N / 2 + 1:=⟨_,rfl⟩
 have hmk:=make_intss (n:=n) (by omega)
 rw [show (n:Int) = (N:Int) / 2 + 1 by omega] at hmk
 have hn48:n≤48:=by omega
 have HNN:=hid hn
 clear hn
 have kA:=(Kept.refl w1).alloc (.cells (vrow n fun _ => .slice none 0 0).toArray 41)
 have rA:=RowL.alloc 41 w1 (vrow n fun _ => .slice none 0 0)
 go_upto_region 5 with fail
 generalize w1.alloc (.cells (vrow n fun _ => .slice none 0 0).toArray 41) = W1 at kA rA ⊢
 obtain ⟨gp,hgp⟩:∃ g,g = w1.heap.size:=⟨_,rfl⟩
 rw [← hgp] at rA ⊢
 have HP:=hid (And.intro (HK.out.trans kA) (And.intro rA (show w.heap.size≤gp by rw [hgp]; exact HK.out.size)))
 clear kA rA hgp HK hmk
 have hmk2:=make_boolss (n:=n) (by omega)
 have kA:=(Kept.refl W1).alloc (.cells (vrow n fun _ => .slice none 0 0).toArray 55)
 have rA:=MatP.start (w:=W1) (B:=w.heap.size) (n:=n)
 --%A
 go_upto_region 6 with fail
 generalize W1.alloc (.cells (vrow n fun _ => .slice none 0 0).toArray 55) = W2 at kA rA ⊢
 obtain ⟨gf,hgf⟩:∃ g,g = W1.heap.size:=⟨_,rfl⟩
 rw [← hgf] at rA ⊢
 have HF:=hid (And.intro (HP.out.1.trans kA) (And.intro (HP.out.2.1.kept kA) rA))
 have HB:=hid (And.intro HP.out.2.2 (show w.heap.size≤gf by rw [hgf]; exact HP.out.1.size))
 clear kA rA hgf HP hmk2
 have hmk3:=make_bools (n:=n) (by omega)
 go_wp2_with fail
 --%B
 go_loopw [30] (fun v30 wr => ∃ (i:Nat),i≤n∧v30 = .int .i64 (i:Int)∧Hid (Kept w wr∧RowL 41 wr gp (vrow n fun _ => .slice none 0 0)∧∃ gs,MatP w.heap.size wr gf n i gs)) (fun v30 _ => n - (intOf v30).toNat)
 case atStart => exact ⟨0,Nat.zero_le _,rfl,HF.out.1,HF.out.2.1,_,HF.out.2.2⟩
 case round =>
  clear HF
  obtain ⟨i,hil,rfl,H⟩:=hrel
  obtain ⟨hkw,hpr,gs,hMP⟩:=H.out
  clear H
  by_cases hit:i < n
  ·
   have hii:(i:Int) < (n:Int):=by omega
   have hi0:(0:Int)≤(i:Int):=by omega
   have kA:=(Kept.refl wr).alloc (.cells (brow n fun _ => false).toArray 4)
   have c1:(wr.alloc (.cells (brow n fun _ => false).toArray 4)).cell? ⟨gf,i,none⟩ = some (.slice none 0 0):=by
    have:=(hMP.row.kept kA).cell i _ (vrow_at hit)
    rw [if_neg (Nat.lt_irrefl _)] at this
    exact this
   have f1:(wr.alloc (.cells (brow n fun _ => false).toArray 4)).frozen? ⟨gf,i,none⟩ = false:=(hMP.row.kept kA).fz i
   have HS:=hid (And.intro ((hkw.trans kA).setCell (p:=⟨gf,i,none⟩) HB.out.2 (.slice (some ⟨wr.heap.size,0,none⟩) n n)) (And.intro ((hpr.kept kA).far (row_ne hpr hMP.row (by decide)) i (.slice (some ⟨wr.heap.size,0,none⟩) n n)) (hMP.step hkw.size)))
   clear hkw hpr hMP kA
   --%C
   go_wp2_with fail
   go_roundw
   case rel => exact ⟨i + 1,by omega,by go_num,HS.out.1,HS.out.2.1,_,HS.out.2.2⟩
   case measure => show n - ((i:Int) + 1).toNat < n - (i:Int).toNat; omega
  ·
   have hii:¬ (i:Int) < (n:Int):=by omega
   obtain rfl:n = i:=by omega
   have HM:=hid (And.intro hkw (And.intro hpr (hMP.all.congr (m':=tF ps 1) (fun a b _ _ => by rw [tF_one]))))
   clear hkw hpr hMP hmk3
   go_wp2_with fail
   --%D
   go_loopw [7] (fun v7 wr => ∃ (j:Nat),1≤j∧(j≤N ∨ j = 1)∧v7 = .int .i64 (j:Int)∧Hid (Kept w wr∧RowL 41 wr gp (vrow n fun _ => .slice none 0 0)∧MatF w.heap.size wr gf n gs (tF ps j))) (fun v7 _ => N - (intOf v7).toNat)
   case atStart => exact ⟨1,Nat.le_refl _,Or.inr rfl,rfl,HM.out⟩
   case round =>
    clear HM
    obtain ⟨j,hj1,hjN,rfl,H⟩:=hrel
    by_cases hjt:j < N
    ·
     have hjj:(j:Int) < (N:Int):=by omega
     have hjn:(j:Int) < (n0:Int):=by omega
     have hj0:(0:Int)≤(j:Int):=by omega
     have hjz:((j:Int) == 0) = false:=by simp; omega
     have hjL:j < ps.length:=by have:=HL.out.2.1; omega
     obtain ⟨b,off,rfl,hd⟩:=HL.out.1.at hjL
     have c1:=hd _ H.out.1
     have hvb:=HL.out.2.2 (ps.getD j 0) (by rw [List.getD_eq_getElem?_getD,List.getElem?_eq_getElem hjL]; exact List.getElem_mem hjL)
     obtain ⟨p0,hp0⟩:∃ p,p = parN (ps.getD j 0):=⟨_,rfl⟩
     have HPA:=hid (show par ps j = p0 % j by unfold par; rw [← hp0])
     obtain ⟨v,hv⟩:∃ v,v = ps.getD j 0:=⟨_,rfl⟩
     rw [← hv] at c1 hvb hp0
     clear hv hd
     obtain ⟨q0,hq0⟩:∃ q,q = p0 % j:=⟨_,rfl⟩
     have ht:(p0:Int).tmod (j:Int) = (q0:Int):=by rw [hq0,Int.ofNat_tmod]
     have hqj:q0 < j:=by rw [hq0]; exact Nat.mod_lt _ hj1
     rw [← hq0] at HPA
     clear hq0
     --%E
     by_cases hneg:v < 0
     ·
      have e:-(v + 1) = (p0:Int):=by rw [hp0]; unfold parN; rw [if_pos hneg]; omega
      have HE:=hid e
      have HPP:=hid hp0
      clear e hp0
      go_upto_region 17 with fail
      rw [HE.out]
      by_cases hpar:q0 % 2 = j % 2
      ·
       have hb:((q0:Int) % 2 == (j:Int) % 2) = true:=by simp; omega
       have HE2:=hid hpar
       clear hpar
       go_wp2_with fail
       go_roundw
       case rel => exact ⟨j + 1,by omega,Or.inl (by omega),by go_num,H.out.1,H.out.2.1,H.out.2.2.congr (fun a b _ _ => (tF_same (by rw [HPA.out]; exact HE2.out) a b).symm)⟩
       case measure => show N - ((j:Int) + 1).toNat < N - (j:Int).toNat; omega
      ·
       by_cases hev:j % 2 = 0
       ·
        have hb:((q0:Int) % 2 == (j:Int) % 2) = false:=by simp; omega
        have hev2:((j:Int) % 2 == 0) = true:=by simp; omega
        obtain ⟨a,ha⟩:∃ a,a = j / 2:=⟨_,rfl⟩
        obtain ⟨b1,hb1⟩:∃ b,b = q0 / 2:=⟨_,rfl⟩
        have hq1:(j:Int) / 2 = (a:Int):=by omega
        have hq2:(q0:Int) / 2 = (b1:Int):=by omega
        have han:a < n:=by have:=HNN.out; omega
        have hbn:b1 < n:=by have:=HNN.out; omega
        have hai:(a:Int) < (n:Int):=by omega
        have ha0:(0:Int)≤(a:Int):=by omega
        have hbi:(b1:Int) < (n:Int):=by omega
        have hb0:(0:Int)≤(b1:Int):=by omega
        have cF:=H.out.2.2.row.cell a _ (vrow_at han)
        have cS:=(H.out.2.2.rows a han).cell b1 _ (brow_at hbn)
        have fS:=(H.out.2.2.rows a han).fz b1
        have HS:=hid (And.intro (H.out.1.setCell (p:=⟨gs a,b1,none⟩) (H.out.2.2.base a han) (.bool true)) (And.intro (H.out.2.1.far (row_ne H.out.2.1 (H.out.2.2.rows a han) (by decide)) b1 (.bool true)) ((H.out.2.2.set (b:=b1) han).congr (m':=tF ps (j + 1)) (fun x y _ _ => by
         have e1:j = 2 * a:=by omega
         have e2:par ps j = 2 * b1 + 1:=by rw [HPA.out]; omega
         rw [e1] at e2 ⊢
         exact (tF_even (by omega) e2 x y).symm))))
        generalize tF ps j a b1 = t0 at cS
        clear hpar hev ha hb1
        go_wp2_with fail
        go_roundw
        case rel => exact ⟨j + 1,by omega,Or.inl (by omega),by go_num,HS.out⟩
        case measure => show N - ((j:Int) + 1).toNat < N - (j:Int).toNat; omega
       ·
        have hb:((q0:Int) % 2 == (j:Int) % 2) = false:=by simp; omega
        have hev2:((j:Int) % 2 == 0) = false:=by simp; omega
        obtain ⟨a,ha⟩:∃ a,a = q0 / 2:=⟨_,rfl⟩
        obtain ⟨b1,hb1⟩:∃ b,b = j / 2:=⟨_,rfl⟩
        have hq1:(q0:Int) / 2 = (a:Int):=by omega
        have hq2:(j:Int) / 2 = (b1:Int):=by omega
        have han:a < n:=by have:=HNN.out; omega
        have hbn:b1 < n:=by have:=HNN.out; omega
        have hai:(a:Int) < (n:Int):=by omega
        have ha0:(0:Int)≤(a:Int):=by omega
        have hbi:(b1:Int) < (n:Int):=by omega
        have hb0:(0:Int)≤(b1:Int):=by omega
        have cF:=H.out.2.2.row.cell a _ (vrow_at han)
        have cS:=(H.out.2.2.rows a han).cell b1 _ (brow_at hbn)
        have fS:=(H.out.2.2.rows a han).fz b1
        have HS:=hid (And.intro (H.out.1.setCell (p:=⟨gs a,b1,none⟩) (H.out.2.2.base a han) (.bool true)) (And.intro (H.out.2.1.far (row_ne H.out.2.1 (H.out.2.2.rows a han) (by decide)) b1 (.bool true)) ((H.out.2.2.set (b:=b1) han).congr (m':=tF ps (j + 1)) (fun x y _ _ => by
         have e1:j = 2 * b1 + 1:=by omega
         have e2:par ps j = 2 * a:=by rw [HPA.out]; omega
         rw [e1] at e2 ⊢
         exact (tF_odd e2 x y).symm))))
        generalize tF ps j a b1 = t0 at cS
        clear hpar hev ha hb1
        go_wp2_with fail
        go_roundw
        case rel => exact ⟨j + 1,by omega,Or.inl (by omega),by go_num,HS.out⟩
        case measure => show N - ((j:Int) + 1).toNat < N - (j:Int).toNat; omega
     ·
      have e:v = (p0:Int):=by rw [hp0]; unfold parN; rw [if_neg hneg]; omega
      clear hp0
      subst e
      go_upto_region 17 with fail
      by_cases hpar:q0 % 2 = j % 2
      ·
       have hb:((q0:Int) % 2 == (j:Int) % 2) = true:=by simp; omega
       have HE2:=hid hpar
       clear hpar
       go_wp2_with fail
       go_roundw
       case rel => exact ⟨j + 1,by omega,Or.inl (by omega),by go_num,H.out.1,H.out.2.1,H.out.2.2.congr (fun a b _ _ => (tF_same (by rw [HPA.out]; exact HE2.out) a b).symm)⟩
       case measure => show N - ((j:Int) + 1).toNat < N - (j:Int).toNat; omega
      ·
       by_cases hev:j % 2 = 0
       ·
        have hb:((q0:Int) % 2 == (j:Int) % 2) = false:=by simp; omega
        have hev2:((j:Int) % 2 == 0) = true:=by simp; omega
        obtain ⟨a,ha⟩:∃ a,a = j / 2:=⟨_,rfl⟩
        obtain ⟨b1,hb1⟩:∃ b,b = q0 / 2:=⟨_,rfl⟩
        have hq1:(j:Int) / 2 = (a:Int):=by omega
        have hq2:(q0:Int) / 2 = (b1:Int):=by omega
        have han:a < n:=by have:=HNN.out; omega
        have hbn:b1 < n:=by have:=HNN.out; omega
        have hai:(a:Int) < (n:Int):=by omega
        have ha0:(0:Int)≤(a:Int):=by omega
        have hbi:(b1:Int) < (n:Int):=by omega
        have hb0:(0:Int)≤(b1:Int):=by omega
        have cF:=H.out.2.2.row.cell a _ (vrow_at han)
        have cS:=(H.out.2.2.rows a han).cell b1 _ (brow_at hbn)
        have fS:=(H.out.2.2.rows a han).fz b1
        have HS:=hid (And.intro (H.out.1.setCell (p:=⟨gs a,b1,none⟩) (H.out.2.2.base a han) (.bool true)) (And.intro (H.out.2.1.far (row_ne H.out.2.1 (H.out.2.2.rows a han) (by decide)) b1 (.bool true)) ((H.out.2.2.set (b:=b1) han).congr (m':=tF ps (j + 1)) (fun x y _ _ => by
         have e1:j = 2 * a:=by omega
         have e2:par ps j = 2 * b1 + 1:=by rw [HPA.out]; omega
         rw [e1] at e2 ⊢
         exact (tF_even (by omega) e2 x y).symm))))
        generalize tF ps j a b1 = t0 at cS
        clear hpar hev ha hb1
        go_wp2_with fail
        go_roundw
        case rel => exact ⟨j + 1,by omega,Or.inl (by omega),by go_num,HS.out⟩
        case measure => show N - ((j:Int) + 1).toNat < N - (j:Int).toNat; omega
       ·
        have hb:((q0:Int) % 2 == (j:Int) % 2) = false:=by simp; omega
        have hev2:((j:Int) % 2 == 0) = false:=by simp; omega
        obtain ⟨a,ha⟩:∃ a,a = q0 / 2:=⟨_,rfl⟩
        obtain ⟨b1,hb1⟩:∃ b,b = j / 2:=⟨_,rfl⟩
        have hq1:(q0:Int) / 2 = (a:Int):=by omega
        have hq2:(j:Int) / 2 = (b1:Int):=by omega
        have han:a < n:=by have:=HNN.out; omega
        have hbn:b1 < n:=by have:=HNN.out; omega
        have hai:(a:Int) < (n:Int):=by omega
        have ha0:(0:Int)≤(a:Int):=by omega
        have hbi:(b1:Int) < (n:Int):=by omega
        have hb0:(0:Int)≤(b1:Int):=by omega
        have cF:=H.out.2.2.row.cell a _ (vrow_at han)
        have cS:=(H.out.2.2.rows a han).cell b1 _ (brow_at hbn)
        have fS:=(H.out.2.2.rows a han).fz b1
        have HS:=hid (And.intro (H.out.1.setCell (p:=⟨gs a,b1,none⟩) (H.out.2.2.base a han) (.bool true)) (And.intro (H.out.2.1.far (row_ne H.out.2.1 (H.out.2.2.rows a han) (by decide)) b1 (.bool true)) ((H.out.2.2.set (b:=b1) han).congr (m':=tF ps (j + 1)) (fun x y _ _ => by
         have e1:j = 2 * b1 + 1:=by omega
         have e2:par ps j = 2 * a:=by rw [HPA.out]; omega
         rw [e1] at e2 ⊢
         exact (tF_odd e2 x y).symm))))
        generalize tF ps j a b1 = t0 at cS
        clear hpar hev ha hb1
        go_wp2_with fail
        go_roundw
        case rel => exact ⟨j + 1,by omega,Or.inl (by omega),by go_num,HS.out⟩
        case measure => show N - ((j:Int) + 1).toNat < N - (j:Int).toNat; omega
    ·
     have hjj:¬ (j:Int) < (N:Int):=by omega
     have HG:=hid (And.intro H.out.1 (And.intro (show Grid w.heap.size wr gp n (fun _ => .slice none 0 0) (tL (tF ps j) n 0 0) from ⟨HB.out.1,H.out.2.1,fun k _ => by
      rw [show tL (tF ps j) n 0 0 k = [] by unfold tL; rw [if_neg (by omega)]; split <;> rfl]
      exact World.ownsRow_nil _ _ _ _,fun _ _ _ _ _ _ hb => by cases hb⟩) H.out.2.2))
     have HFO:=hid (forest_order hn48 (tF_forest ps j n))
     generalize tF ps j = F at HG HFO
     clear H hjN hj1
     go_wp2_with fail
     --%G
     go_loopw [83] (fun v83 wr => ∃ (i:Nat),i≤n∧v83 = .int .i64 (i:Int)∧Hid (Kept w wr∧(∃ hs,Grid w.heap.size wr gp n hs (tL F n i 0))∧MatF w.heap.size wr gf n gs F)) (fun v83 _ => n - (intOf v83).toNat)
     case atStart => exact ⟨0,Nat.zero_le _,rfl,HG.out.1,⟨_,HG.out.2.1⟩,HG.out.2.2⟩
     case round =>
      clear HG
      obtain ⟨i,hil,rfl,H⟩:=hrel
      by_cases hit:i < n
      ·
       have hii:(i:Int) < (n:Int):=by omega
       have hi0:(0:Int)≤(i:Int):=by omega
       have cF:=H.out.2.2.row.cell i _ (vrow_at hit)
       go_wp2_with fail
       --%H
       go_loopw [91] (fun v91 wr => ∃ (k:Nat),k≤n∧v91 = .int .i64 (k:Int)∧Hid (Kept w wr∧(∃ hs,Grid w.heap.size wr gp n hs (tL F n i k))∧MatF w.heap.size wr gf n gs F)) (fun v91 _ => n - (intOf v91).toNat)
       case atStart => exact ⟨0,Nat.zero_le _,rfl,H.out⟩
       case round =>
        clear H cF
        obtain ⟨k,hkl,rfl,K⟩:=hrel
        by_cases hkt:k < n
        ·
         have hkk:(k:Int) < (n:Int):=by omega
         have hk0:(0:Int)≤(k:Int):=by omega
         have cF:=K.out.2.2.row.cell i _ (vrow_at hit)
         have cS:=(K.out.2.2.rows i hit).cell k _ (brow_at hkt)
         have HT:=hid (thinR_step F i k)
         cases hm:F i k with
         | false =>
          rw [hm] at cS HT
          have HE:=hid (show ∀ j,j < n→tL F n i k j = tL F n i (k + 1) j by
           intro j _
           unfold tL
           rw [HT.out,if_neg (show ¬ false = true by decide)])
          clear hm HT
          --%I
          go_wp2_with fail
          go_roundw
          case rel => exact ⟨k + 1,by omega,by go_num,K.out.1,(by obtain ⟨hs,hg⟩:=K.out.2.1; exact ⟨hs,hg.congr HE.out⟩),K.out.2.2⟩
          case measure => show n - ((k:Int) + 1).toNat < n - (k:Int).toNat; omega
         | true =>
          rw [hm] at cS HT
          obtain ⟨hKw,⟨hs,hGr⟩,hMF⟩:=K.out
          have hll:(tL F n i k i).length≤48:=by
           have:=thinR_len F i k
           unfold tL
           rw [if_neg (Nat.lt_irrefl _),if_pos rfl]
           omega
          have HE:=hid (show ∀ j,j < n→(if j = i then tL F n i k i ++ [(k:Int)] else tL F n i k j) = tL F n i (k + 1) j by
           intro j _
           unfold tL
           by_cases e:j = i
           ·
            rw [if_pos e,if_neg (Nat.lt_irrefl _),if_pos rfl,if_neg (by omega),if_pos e,HT.out,if_pos rfl]
           ·
            rw [if_neg e,if_neg e,if_neg e])
          obtain ⟨va,vc,hv⟩:=own_shape (hGr.own i hit)
          have c3:wr.cell? ⟨gp,i,none⟩ = some (hs i):=hGr.row.cell i _ (vrow_at hit)
          rw [hv] at c3
          have HGr:=hid (And.intro hKw (And.intro hGr (And.intro hv hMF)))
          have hOx:=hid (show OwnI w.heap.size wr (.slice va (tL F n i k i).length vc) (tL F n i k i) by rw [← hv]; exact hGr.own i hit)
          have hsz:w.heap.size≤wr.heap.size:=hKw.size
          obtain ⟨l,hl⟩:∃ l,l = tL F n i k i:=⟨_,rfl⟩
          have HLL:=hid hl
          rw [← hl] at c3 hOx hll
          clear hGr hKw hv K hl hMF hm HT
          --%J
          go_wp2_with (at_builtin; refine wpList_append_lies _ rfl (.tmp 106) (.tmp 108) 41 rfl w.heap.size 3 i1 (.int .i64 0) 1 8 und_ints hj hy0 hy1 hy2 rfl (by decide) (.slice va l.length vc) l.length (l.map (Value.int .i64)) rfl (by exact World.ownsRow.alloc hOx.out _) ⟨wr.heap.size,0,none⟩ 1 1 [.int .i64 (k:Int)] rfl rfl (cell_new wr _ _) (fun u hu => by simp at hu; subst hu; rfl) (by omega) (by unfold maxLen; omega) (by omega) (by simp; omega) _ rfl ?_)
          intro G cap w5 hO hgr hG _
          have kA:=(Kept.refl wr).alloc (.cells #[.int .i64 (k:Int)] 3)
          have hWs:=alloc_size wr (.cells #[.int .i64 (k:Int)] 3)
          rw [← hWs] at hG
          generalize wr.alloc (.cells #[.int .i64 (k:Int)] 3) = W5 at kA hgr hG
          have hOw:W5.ownsRow w.heap.size 3 1 (.slice va l.length vc) l.length (l.map (Value.int .i64)):=own_keptK hOx.out kA
          have KW:Kept w w5:=Below.grown (HGr.out.1.trans kA) hgr (HGr.out.1.trans kA).size (fun k hk => (World.ownsRow.lt hOw k hk).1)
          have hgr2:W5.grownBy w5 (hs i).ownBlock:=by rw [HGr.out.2.2.1,← HLL.out]; exact hgr
          have hP:=HGr.out.2.1.push (x:=(k:Int)) (G:=G) (cap:=cap) hit kA (by rw [← HLL.out]; exact hO) hgr2 (by rw [HGr.out.2.2.1,← HLL.out]; exact hG)
          rw [← HLL.out] at hP
          have hMF:MatF w.heap.size (w5.setCell ⟨gp,i,none⟩ (.slice (some ⟨G,0,none⟩) (l.length + 1) cap)) gf n gs F:=⟨HGr.out.2.2.2.base,HGr.out.2.1.aside hit kA hgr2 HGr.out.2.2.2.row (by decide) (by decide),fun j hj => HGr.out.2.1.aside hit kA hgr2 (HGr.out.2.2.2.rows j hj) (by decide) (by decide),HGr.out.2.2.2.inj⟩
          have hr5:RowL 41 w5 gp (vrow n hs):=by
           have hne:(Value.slice va l.length vc).ownBlock ≠ some gp:=own_row hOw (HGr.out.2.1.row.kept kA) (by decide)
           exact (HGr.out.2.1.row.kept kA).block (hgr.block gp (HGr.out.2.1.row.kept kA).lt (fun e => hne e.symm))
          have hW5g:w5.frozen? ⟨gp,i,none⟩ = false:=hr5.fz i
          have hW5c:w5.cell? ⟨gp,i,none⟩ = some (.slice va l.length vc):=by rw [hr5.cell i _ (vrow_at hit),HGr.out.2.2.1,← HLL.out]
          have HQ:=hid (And.intro (KW.setCell (p:=⟨gp,i,none⟩) HB.out.1 (.slice (some ⟨G,0,none⟩) (l.length + 1) cap)) (And.intro (hP.congr (L':=tL F n i (k + 1)) (fun j hj => by rw [← HE.out j hj,HLL.out])) hMF))
          clear kA hgr hgr2 hG hOw KW hP hO HGr hOx HE c3 hWs hr5 hMF cF cS
          --%K
          go_wp2_with fail
          go_roundw
          case rel => exact ⟨k + 1,by omega,by go_num,HQ.out.1,⟨_,HQ.out.2.1⟩,HQ.out.2.2⟩
          case measure => show n - ((k:Int) + 1).toNat < n - (k:Int).toNat; omega
        ·
         have hkk:¬ (k:Int) < (n:Int):=by omega
         obtain rfl:n = k:=by omega
         have HE:=hid (show ∀ j,j < n→tL F n i n j = tL F n (i + 1) 0 j by
          intro j _
          unfold tL
          by_cases e:j < i
          ·
           rw [if_pos e,if_pos (by omega)]
          ·
           rw [if_neg e]
           by_cases e2:j = i
           ·
            rw [if_pos e2,if_pos (by omega),e2]
           ·
            rw [if_neg e2,if_neg (by omega)]
            split <;> rfl)
         go_wp2_with fail
         go_roundw
         case rel => exact ⟨i + 1,by omega,by go_num,K.out.1,(by obtain ⟨hs,hg⟩:=K.out.2.1; exact ⟨hs,hg.congr HE.out⟩),K.out.2.2⟩
         case measure => show n - ((i:Int) + 1).toNat < n - (i:Int).toNat; omega
      ·
       have hii:¬ (i:Int) < (n:Int):=by omega
       obtain rfl:n = i:=by omega
       have hPat:PatR wr (.slice (some ⟨gp,0,none⟩) n n) (thinP n F n):=by
        obtain ⟨hs,hg⟩:=H.out.2.1
        exact (hg.congr (L':=fun c => thinR F c n) (fun j hj => by unfold tL; rw [if_pos hj])).pat
       have HPT:=hid (And.intro H.out.1 hPat)
       have HCK:=hid (show chkP (thinP n F n) = 0 by unfold chkP; rw [if_pos (okP_thin hn48)])
       have HTR:=hid (thin_rows (m:=F) hn48)
       have HOL:=hid (show (orderS (thinP n F n)).length≤48 by have:=(order_fits (okP_thin (m:=F) hn48)).2.1; rw [thinP_len] at this; omega)
       clear hPat H
       generalize thinP n F n = P at HPT HCK HFO HTR HOL
       go_wp2_with fail
       --%L
       refine (sp_order _ n n P _ HPT.out.2 (by omega) HTR.out).mono ?_
       rintro e w3 ⟨hk,v,u,rfl,hv,hu,_⟩
       rw [HCK.out]
       obtain ⟨va,vc,rfl⟩:=own_shape hv
       obtain ⟨ua,uc,rfl⟩:=own_shape hu
       have HPT:=hid (And.intro (HPT.out.1.trans hk) (And.intro (HPT.out.2.kept hk) (And.intro (OwnI.isl hv) (And.intro (OwnI.isl hu) (show (fstI (orderS P)).length = (sndI (orderS P)).length by unfold fstI sndI; rw [List.length_map,List.length_map])))))
       clear hk hv hu
       have hb1:(fstI (orderS P)).length≤1000000:=by
        unfold fstI
        rw [List.length_map]
        have:=HOL.out
        omega
       generalize fstI (orderS P) = l1 at HPT HFO hb1
       generalize sndI (orderS P) = l2 at HPT HFO
       obtain ⟨m1,hm1⟩:∃ m,m = l1.length:=⟨_,rfl⟩
       obtain ⟨m2,hm2⟩:∃ m,m = l2.length:=⟨_,rfl⟩
       rw [← hm1] at HPT hb1 ⊢
       rw [← hm2] at HPT ⊢
       clear hm1 hm2
       go_wp2_with fail
       --%M
       refine (sp_fill _ n n va m1 vc ua m2 uc P l1 l2 _ HPT.out.2.1 HPT.out.2.2.1 HPT.out.2.2.2.1 (by omega) HTR.out hb1).mono ?_
       rintro e w4 ⟨hk,rfl⟩
       rw [HFO.out]
       have HK:=hid (HPT.out.1.trans hk)
       clear hk
       go_wp2_with fail
       go_ret
       exact ⟨HK.out,rfl⟩
end Sp
end Go.Proofs.Ytlciijlgiknljaa

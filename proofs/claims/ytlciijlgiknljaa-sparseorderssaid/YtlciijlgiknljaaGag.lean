/- shuntref09.Ints of equal lists; rows that a literal makes; shuntlaw13.awake. shuntlaw13: wide, SparseFills, SparseBest. Patterns that an elimination leaves, as lists; orders that fit: the mathematics of SparseOrders. SparseOrders' walk. -/
import Derived.Test.YtlciijlgiknljaaGaf
import Derived.Test.YtlciijlgiknljaaGae
namespace Go.Proofs.Ytlciijlgiknljaa
open Go.RowKit
open V (RowL RowL.alloc RowL.lt RowL.cell RowL.fz RowL.kept RowL.block RowL.set RowL.far)
namespace Sp
set_option maxRecDepth 100000 in
set_option maxHeartbeats 8000000 in
theorem ints_any (a1:Option Addr) (n c1:Nat) (a2:Option Addr) (c2:Nat) (l:List Int) (w:World) (h1:ISl w (.slice a1 n c1) l) (h2:ISl w (.slice a2 n c2) l) (hn:n≤1000000) :
  Calls Try.prog 21 #[.slice a1 n c1,.slice a2 n c2] w fun e w' => Kept w w'∧e = .returned (.bool true):=by
 have hl:=h1.len
 have HL:=hid (And.intro h1 (And.intro h2 hl))
 clear h1 h2 hl
 go_enter Try.func21,Try.ntmps21
 go_wp2_with fail
 go_loopw [5] (fun v5 wr => ∃ (i:Nat),i≤n∧v5 = .int .i64 (i:Int)∧Hid (Kept w wr)) (fun v5 _ => n - (intOf v5).toNat)
 case atStart => exact ⟨0,Nat.zero_le _,rfl,Kept.refl _⟩
 case round =>
  obtain ⟨i,hi,rfl,H⟩:=hrel
  by_cases hit:i < n
  ·
   have hii:(i:Int) < (n:Int):=by omega
   have hi0:(0:Int)≤(i:Int):=by omega
   have HK:=hid (H.out.trans (Kept.refl wr).drew)
   have hiL:i < l.length:=by have:=HL.out.2.2; omega
   obtain ⟨b1,o1,rfl,hd1⟩:=HL.out.1.at hiL
   obtain ⟨b2,o2,rfl,hd2⟩:=HL.out.2.1.at hiL
   have k1:=hd1 _ HK.out
   have k2:=hd2 _ HK.out
   clear hd1 hd2
   generalize l.getD i 0 = x at k1 k2
   go_upto_region 6 with fail
   refine wp_region_held_drew (S:=fun w' => w'.cell? ⟨b1,o1 + i,none⟩ = some (.int .i64 x)∧w'.cell? ⟨b2,o2 + i,none⟩ = some (.int .i64 x)) (by kernel_rfl) ⟨k1,k2⟩ (fun hHeld => ?_)
   clear k1 k2
   generalize wr.drew = Wd at HK hHeld ⊢
   refine tk 0 hHeld ?_
   refine tk 1 hHeld ?_
   refine tk 2 hHeld ?_
   refine tk 3 hHeld ?_
   refine tk 4 hHeld ?_
   refine tk 5 hHeld ?_
   refine tk 6 hHeld ?_
   refine tk 7 hHeld ?_
   refine tk 8 hHeld ?_
   refine _root_.Go.Proofs.Ytlciijlgiknljaa.dn ?_
   clear hHeld
   go_wp2_with fail
   go_roundw
   case rel => exact ⟨i + 1,by omega,by go_num,HK.out⟩
   case measure => show n - ((i:Int) + 1).toNat < n - (i:Int).toNat; omega
  ·
   have hii:¬ (i:Int) < (n:Int):=by omega
   go_wp2_with fail
   go_ret
   exact ⟨H.out,rfl⟩
theorem isl_row {w:World} {p n c:Nat} {l:List Int} (h:RowL 3 w p (l.map (Value.int .i64))) (hn:n = l.length):ISl w (.slice (some ⟨p,0,none⟩) n c) l:=by
 subst hn
 refine ⟨_,_,rfl,fun _ => ⟨p,0,rfl,h.lt,fun j hj => ?_⟩⟩
 rw [Nat.zero_add]
 refine h.cell j _ ?_
 rw [List.getElem?_map,List.getD_eq_getElem?_getD,List.getElem?_eq_getElem hj]
 rfl
theorem isl_nil {w:World}:ISl w (.slice none 0 0) []:=⟨none,0,rfl,fun h => absurd h (by decide)⟩
theorem pat_row {w:World} {q n c:Nat} {hs:List Value} {P:List (List Int)} (h:RowL 41 w q hs) (hn:n = P.length) (hr:∀ i,i < P.length→∃ ra rc,hs[i]? = some (.slice ra (P.getD i []).length rc)∧ISl w (.slice ra (P.getD i []).length rc) (P.getD i [])):PatR w (.slice (some ⟨q,0,none⟩) n c) P:=by
 subst hn
 refine ⟨_,_,rfl,fun _ => ⟨q,0,rfl,h.lt,fun i hi => ?_⟩⟩
 obtain ⟨ra,rc,h1,h2⟩:=hr i hi
 refine ⟨ra,rc,?_,h2⟩
 rw [Nat.zero_add]
 exact h.cell i _ h1
def pA:List (List Int):=[[0,1,2],[0,1],[0,2]]
theorem pA_len:∀ l ∈ pA,l.length≤1000000:=by decide
theorem a_order:orderS pA = [(1,1),(0,0),(2,2)]:=by kernel_rfl
theorem a_chk:chkP pA = 0:=by kernel_rfl
theorem a_fill:fillS pA [0,1,2] [0,1,2] = (2,0):=by kernel_rfl
theorem a_elim:elimS pA 1 1 = ([[0,2],[],[0,2]],0):=by kernel_rfl
theorem a_best:bestS pA = some (1,1):=by kernel_rfl
theorem a_cost:costS pA 0 0 = (4,0):=by kernel_rfl
theorem a_bad:chkP [[1]] = 130:=by kernel_rfl
theorem alloc_size (w:World) (o:Obj):(w.alloc o).heap.size = w.heap.size + 1:=by simp
theorem lit3 (w:World) (x1 x2 x3:List Int):Kept w ((((w.alloc (.cells (x1.map (Value.int .i64)).toArray 3)).alloc (.cells (x2.map (Value.int .i64)).toArray 3)).alloc (.cells (x3.map (Value.int .i64)).toArray 3)).alloc (.cells #[.slice (some ⟨w.heap.size,0,none⟩) x1.length x1.length,.slice (some ⟨w.heap.size + 1,0,none⟩) x2.length x2.length,.slice (some ⟨w.heap.size + 1 + 1,0,none⟩) x3.length x3.length] 41)) ∧
  PatR ((((w.alloc (.cells (x1.map (Value.int .i64)).toArray 3)).alloc (.cells (x2.map (Value.int .i64)).toArray 3)).alloc (.cells (x3.map (Value.int .i64)).toArray 3)).alloc (.cells #[.slice (some ⟨w.heap.size,0,none⟩) x1.length x1.length,.slice (some ⟨w.heap.size + 1,0,none⟩) x2.length x2.length,.slice (some ⟨w.heap.size + 1 + 1,0,none⟩) x3.length x3.length] 41)) (.slice (some ⟨w.heap.size + 1 + 1 + 1,0,none⟩) 3 3) [x1,x2,x3]:=by
 have r1:=RowL.alloc 3 w (x1.map (Value.int .i64))
 have k1:=(Kept.refl w).alloc (.cells (x1.map (Value.int .i64)).toArray 3)
 have s1:=alloc_size w (.cells (x1.map (Value.int .i64)).toArray 3)
 generalize w.alloc (.cells (x1.map (Value.int .i64)).toArray 3) = W1 at r1 k1 s1 ⊢
 have r2:=RowL.alloc 3 W1 (x2.map (Value.int .i64))
 have k2:=(Kept.refl W1).alloc (.cells (x2.map (Value.int .i64)).toArray 3)
 have s2:=alloc_size W1 (.cells (x2.map (Value.int .i64)).toArray 3)
 generalize W1.alloc (.cells (x2.map (Value.int .i64)).toArray 3) = W2 at r2 k2 s2 ⊢
 have r3:=RowL.alloc 3 W2 (x3.map (Value.int .i64))
 have k3:=(Kept.refl W2).alloc (.cells (x3.map (Value.int .i64)).toArray 3)
 have s3:=alloc_size W2 (.cells (x3.map (Value.int .i64)).toArray 3)
 generalize W2.alloc (.cells (x3.map (Value.int .i64)).toArray 3) = W3 at r3 k3 s3 ⊢
 have r4:=RowL.alloc 41 W3 [.slice (some ⟨w.heap.size,0,none⟩) x1.length x1.length,.slice (some ⟨w.heap.size + 1,0,none⟩) x2.length x2.length,.slice (some ⟨w.heap.size + 1 + 1,0,none⟩) x3.length x3.length]
 have k4:=(Kept.refl W3).alloc (.cells #[.slice (some ⟨w.heap.size,0,none⟩) x1.length x1.length,.slice (some ⟨w.heap.size + 1,0,none⟩) x2.length x2.length,.slice (some ⟨w.heap.size + 1 + 1,0,none⟩) x3.length x3.length] 41)
 rw [s3,s2,s1] at r4
 rw [s2,s1] at r3
 rw [s1] at r2
 refine ⟨((k1.trans k2).trans k3).trans k4,pat_row r4 rfl (fun i hi => ?_)⟩
 match i,hi with
 | 0,_ => exact ⟨_,_,rfl,isl_row (((r1.kept k2).kept k3).kept k4) rfl⟩
 | 1,_ => exact ⟨_,_,rfl,isl_row ((r2.kept k3).kept k4) rfl⟩
 | 2,_ => exact ⟨_,_,rfl,isl_row (r3.kept k4) rfl⟩
theorem lit2 (w:World) (x1 x2:List Int):Kept w (((w.alloc (.cells (x1.map (Value.int .i64)).toArray 3)).alloc (.cells (x2.map (Value.int .i64)).toArray 3)).alloc (.cells #[.slice (some ⟨w.heap.size,0,none⟩) x1.length x1.length,.slice none 0 0,.slice (some ⟨w.heap.size + 1,0,none⟩) x2.length x2.length] 41)) ∧
  PatR (((w.alloc (.cells (x1.map (Value.int .i64)).toArray 3)).alloc (.cells (x2.map (Value.int .i64)).toArray 3)).alloc (.cells #[.slice (some ⟨w.heap.size,0,none⟩) x1.length x1.length,.slice none 0 0,.slice (some ⟨w.heap.size + 1,0,none⟩) x2.length x2.length] 41)) (.slice (some ⟨w.heap.size + 1 + 1,0,none⟩) 3 3) [x1,[],x2]:=by
 have r1:=RowL.alloc 3 w (x1.map (Value.int .i64))
 have k1:=(Kept.refl w).alloc (.cells (x1.map (Value.int .i64)).toArray 3)
 have s1:=alloc_size w (.cells (x1.map (Value.int .i64)).toArray 3)
 generalize w.alloc (.cells (x1.map (Value.int .i64)).toArray 3) = W1 at r1 k1 s1 ⊢
 have r2:=RowL.alloc 3 W1 (x2.map (Value.int .i64))
 have k2:=(Kept.refl W1).alloc (.cells (x2.map (Value.int .i64)).toArray 3)
 have s2:=alloc_size W1 (.cells (x2.map (Value.int .i64)).toArray 3)
 generalize W1.alloc (.cells (x2.map (Value.int .i64)).toArray 3) = W2 at r2 k2 s2 ⊢
 have r4:=RowL.alloc 41 W2 [.slice (some ⟨w.heap.size,0,none⟩) x1.length x1.length,.slice none 0 0,.slice (some ⟨w.heap.size + 1,0,none⟩) x2.length x2.length]
 have k4:=(Kept.refl W2).alloc (.cells #[.slice (some ⟨w.heap.size,0,none⟩) x1.length x1.length,.slice none 0 0,.slice (some ⟨w.heap.size + 1,0,none⟩) x2.length x2.length] 41)
 rw [s2,s1] at r4
 rw [s1] at r2
 refine ⟨(k1.trans k2).trans k4,pat_row r4 rfl (fun i hi => ?_)⟩
 match i,hi with
 | 0,_ => exact ⟨_,_,rfl,isl_row ((r1.kept k2).kept k4) rfl⟩
 | 1,_ => exact ⟨_,_,rfl,isl_nil⟩
 | 2,_ => exact ⟨_,_,rfl,isl_row (r2.kept k4) rfl⟩
theorem lit1 (w:World) (x1:List Int):Kept w ((w.alloc (.cells (x1.map (Value.int .i64)).toArray 3)).alloc (.cells #[.slice (some ⟨w.heap.size,0,none⟩) x1.length x1.length] 41)) ∧
  PatR ((w.alloc (.cells (x1.map (Value.int .i64)).toArray 3)).alloc (.cells #[.slice (some ⟨w.heap.size,0,none⟩) x1.length x1.length] 41)) (.slice (some ⟨w.heap.size + 1,0,none⟩) 1 1) [x1]:=by
 have r1:=RowL.alloc 3 w (x1.map (Value.int .i64))
 have k1:=(Kept.refl w).alloc (.cells (x1.map (Value.int .i64)).toArray 3)
 have s1:=alloc_size w (.cells (x1.map (Value.int .i64)).toArray 3)
 generalize w.alloc (.cells (x1.map (Value.int .i64)).toArray 3) = W1 at r1 k1 s1 ⊢
 have r4:=RowL.alloc 41 W1 [.slice (some ⟨w.heap.size,0,none⟩) x1.length x1.length]
 have k4:=(Kept.refl W1).alloc (.cells #[.slice (some ⟨w.heap.size,0,none⟩) x1.length x1.length] 41)
 rw [s1] at r4
 refine ⟨k1.trans k4,pat_row r4 rfl (fun i hi => ?_)⟩
 match i,hi with
 | 0,_ => exact ⟨_,_,rfl,isl_row (r1.kept k4) rfl⟩
set_option maxRecDepth 100000 in
set_option maxHeartbeats 8000000 in
theorem awake13_any (w:World):Calls Try.prog 9 #[] w fun e w' => Kept w w'∧e = .returned (.bool true):=by
 have hA:=lit3 w [0,1,2] [0,1] [0,2]
 go_enter Try.func9,Try.ntmps9
 go_wp2_with fail
 --%A
 have hA:Kept w ((((w.alloc (.cells #[.int .i64 0,.int .i64 1,.int .i64 2] 3)).alloc (.cells #[.int .i64 0,.int .i64 1] 3)).alloc (.cells #[.int .i64 0,.int .i64 2] 3)).alloc (.cells #[.slice (some ⟨w.heap.size,0,none⟩) 3 3,.slice (some ⟨w.heap.size + 1,0,none⟩) 2 2,.slice (some ⟨w.heap.size + 1 + 1,0,none⟩) 2 2] 41))∧PatR ((((w.alloc (.cells #[.int .i64 0,.int .i64 1,.int .i64 2] 3)).alloc (.cells #[.int .i64 0,.int .i64 1] 3)).alloc (.cells #[.int .i64 0,.int .i64 2] 3)).alloc (.cells #[.slice (some ⟨w.heap.size,0,none⟩) 3 3,.slice (some ⟨w.heap.size + 1,0,none⟩) 2 2,.slice (some ⟨w.heap.size + 1 + 1,0,none⟩) 2 2] 41)) (.slice (some ⟨w.heap.size + 1 + 1 + 1,0,none⟩) 3 3) pA:=hA
 generalize (((w.alloc (.cells #[.int .i64 0,.int .i64 1,.int .i64 2] 3)).alloc (.cells #[.int .i64 0,.int .i64 1] 3)).alloc (.cells #[.int .i64 0,.int .i64 2] 3)).alloc (.cells #[.slice (some ⟨w.heap.size,0,none⟩) 3 3,.slice (some ⟨w.heap.size + 1,0,none⟩) 2 2,.slice (some ⟨w.heap.size + 1 + 1,0,none⟩) 2 2] 41) = W at hA ⊢
 generalize w.heap.size + 1 + 1 + 1 = q at hA ⊢
 have HA:=hid hA
 clear hA
 refine (sp_order _ 3 3 pA _ HA.out.2 (by omega) pA_len).mono ?_
 rintro e w1 ⟨hk,v,u,rfl,hv,hu,_⟩
 rw [a_order] at hv hu
 rw [a_chk]
 have HA:=hid (And.intro (HA.out.1.trans hk) (HA.out.2.kept hk))
 obtain ⟨va,vc,rfl⟩:=own_shape hv
 obtain ⟨ua,uc,rfl⟩:=own_shape hu
 have HV:=hid (And.intro (show ISl w1 (.slice va 3 vc) [1,0,2] from OwnI.isl hv) (show ISl w1 (.slice ua 3 uc) [1,0,2] from OwnI.isl hu))
 rw [show (fstI [(1,1),(0,0),(2,2)]).length = 3 from rfl,show (sndI [(1,1),(0,0),(2,2)]).length = 3 from rfl]
 clear hk hv hu
 --%B
 have r1:=RowL.alloc 3 w1 [.int .i64 0,.int .i64 1,.int .i64 2]
 have k1:=(Kept.refl w1).alloc (.cells #[.int .i64 0,.int .i64 1,.int .i64 2] 3)
 have s1:=alloc_size w1 (.cells #[.int .i64 0,.int .i64 1,.int .i64 2] 3)
 have r2:=RowL.alloc 3 (w1.alloc (.cells #[.int .i64 0,.int .i64 1,.int .i64 2] 3)) [.int .i64 0,.int .i64 1,.int .i64 2]
 have k2:=(Kept.refl (w1.alloc (.cells #[.int .i64 0,.int .i64 1,.int .i64 2] 3))).alloc (.cells #[.int .i64 0,.int .i64 1,.int .i64 2] 3)
 rw [s1] at r2
 have HF:=hid (And.intro (k1.trans k2) (And.intro (r1.kept k2) r2))
 clear r1 k1 s1 r2 k2
 go_wp2_with fail
 --%C
 refine (sp_fill _ 3 3 _ 3 3 _ 3 3 pA [0,1,2] [0,1,2] _ (HA.out.2.kept HF.out.1) (isl_row HF.out.2.1 rfl) (isl_row HF.out.2.2 rfl) (by omega) pA_len (by omega)).mono ?_
 rintro e w2 ⟨hk,rfl⟩
 rw [a_fill]
 have HA:=hid (And.intro ((HA.out.1.trans HF.out.1).trans hk) ((HA.out.2.kept HF.out.1).kept hk))
 have HV:=hid (And.intro ((HV.out.1.kept HF.out.1).kept hk) ((HV.out.2.kept HF.out.1).kept hk))
 clear hk HF
 go_wp2_with fail
 refine (sp_elim _ 3 3 pA 1 1 _ HA.out.2 (by omega) pA_len).mono ?_
 rintro e w3 ⟨hk,t,rfl,hT⟩
 rw [a_elim] at hT ⊢
 obtain ⟨ta,tc,rfl⟩:=hT.shape
 have HA:=hid (And.intro (HA.out.1.trans hk) (HA.out.2.kept hk))
 have HV:=hid (And.intro (HV.out.1.kept hk) (HV.out.2.kept hk))
 have HT:=hid (show PatR w3 (.slice ta 3 tc) [[0,2],[],[0,2]] from hT.pat)
 rw [show ([[0,2],[],[0,2]]:List (List Int)).length = 3 from rfl]
 clear hk hT
 --%D
 go_wp2_with fail
 refine (sp_best _ 3 3 pA _ HA.out.2 (by omega) pA_len).mono ?_
 rintro e w4 ⟨hk,rfl⟩
 rw [a_best,a_chk]
 have HA:=hid (And.intro (HA.out.1.trans hk) (HA.out.2.kept hk))
 have HV:=hid (And.intro (HV.out.1.kept hk) (HV.out.2.kept hk))
 have HT:=hid (HT.out.kept hk)
 clear hk
 go_wp2_with fail
 refine (sp_cost _ 3 3 pA 0 0 _ HA.out.2 (by omega) pA_len).mono ?_
 rintro e w5 ⟨hk,rfl⟩
 rw [a_cost]
 have HA:=hid (And.intro (HA.out.1.trans hk) (HA.out.2.kept hk))
 have HV:=hid (And.intro (HV.out.1.kept hk) (HV.out.2.kept hk))
 have HT:=hid (HT.out.kept hk)
 clear hk
 have r1:=RowL.alloc 3 w5 [.int .i64 1,.int .i64 0,.int .i64 2]
 have k1:=(Kept.refl w5).alloc (.cells #[.int .i64 1,.int .i64 0,.int .i64 2] 3)
 have HF:=hid (And.intro k1 r1)
 clear r1 k1
 --%E
 go_wp2_with fail
 --%F
 refine (ints_any va 3 vc _ 3 [1,0,2] _ (HV.out.1.kept HF.out.1) (isl_row HF.out.2 rfl) (by omega)).mono ?_
 rintro e w6 ⟨hk,rfl⟩
 have HA:=hid (And.intro ((HA.out.1.trans HF.out.1).trans hk) ((HA.out.2.kept HF.out.1).kept hk))
 have HV:=hid (And.intro ((HV.out.1.kept HF.out.1).kept hk) ((HV.out.2.kept HF.out.1).kept hk))
 have HT:=hid ((HT.out.kept HF.out.1).kept hk)
 clear hk HF
 go_wp2_with fail
 refine (ints_any ua 3 uc va vc [1,0,2] _ HV.out.2 HV.out.1 (by omega)).mono ?_
 rintro e w7 ⟨hk,rfl⟩
 have HK:=hid (HA.out.1.trans hk)
 have HT:=hid (HT.out.kept hk)
 clear hk HA HV
 have hB:=lit2 w7 [0,2] [0,2]
 have hB:Kept w7 (((w7.alloc (.cells #[.int .i64 0,.int .i64 2] 3)).alloc (.cells #[.int .i64 0,.int .i64 2] 3)).alloc (.cells #[.slice (some ⟨w7.heap.size,0,none⟩) 2 2,.slice none 0 0,.slice (some ⟨w7.heap.size + 1,0,none⟩) 2 2] 41))∧PatR (((w7.alloc (.cells #[.int .i64 0,.int .i64 2] 3)).alloc (.cells #[.int .i64 0,.int .i64 2] 3)).alloc (.cells #[.slice (some ⟨w7.heap.size,0,none⟩) 2 2,.slice none 0 0,.slice (some ⟨w7.heap.size + 1,0,none⟩) 2 2] 41)) (.slice (some ⟨w7.heap.size + 1 + 1,0,none⟩) 3 3) [[0,2],[],[0,2]]:=hB
 have HB:=hid hB
 clear hB
 go_wp2_with fail
 --%G
 refine (same_any ta 3 tc _ 3 [[0,2],[],[0,2]] _ (HT.out.kept HB.out.1) HB.out.2 (by omega) (by decide)).mono ?_
 rintro e w8 ⟨hk,rfl⟩
 have HK:=hid ((HK.out.trans HB.out.1).trans hk)
 clear hk HB HT
 have hB:=lit1 w8 [1]
 have hB:Kept w8 ((w8.alloc (.cells #[.int .i64 1] 3)).alloc (.cells #[.slice (some ⟨w8.heap.size,0,none⟩) 1 1] 41))∧PatR ((w8.alloc (.cells #[.int .i64 1] 3)).alloc (.cells #[.slice (some ⟨w8.heap.size,0,none⟩) 1 1] 41)) (.slice (some ⟨w8.heap.size + 1,0,none⟩) 1 1) [[1]]:=hB
 have HB:=hid hB
 clear hB
 go_wp2_with fail
 --%H
 refine (sp_check _ 1 1 [[1]] _ HB.out.2 (by omega) (by decide)).mono ?_
 rintro e w9 ⟨hk,rfl⟩
 rw [a_bad]
 have HK:=hid ((HK.out.trans HB.out.1).trans hk)
 clear hk HB
 go_wp2_with fail
 go_ret
 exact ⟨HK.out,rfl⟩
end Sp
end Go.Proofs.Ytlciijlgiknljaa

namespace Go.Proofs.Ytlciijlgiknljaa
open Go.RowKit
open V (RowL RowL.alloc RowL.lt RowL.cell RowL.fz RowL.kept RowL.block RowL.set RowL.far)
namespace Sp
def WideIs (e:Ending) (n:Nat) (P:List (List Int)):Prop:=∃ b,e = .returned (.bool b)∧(b = false→n≤61∧∀ l ∈ P,l.length≤60)
set_option maxRecDepth 100000 in
set_option maxHeartbeats 8000000 in
theorem wide_any (ao:Option Addr) (n c:Nat) (P:List (List Int)) (w:World) (h:PatR w (.slice ao n c) P) :
  Calls Try.prog 10 #[.slice ao n c] w fun e w' => w' = w∧WideIs e n P:=by
 have hl:=h.len
 have HL:=hid (And.intro h hl)
 clear h hl
 go_enter Try.func10,Try.ntmps10
 go_wp2_with fail
 go_loopw [6] (fun v6 wr => ∃ (i:Nat),i≤n∧i≤61∧v6 = .int .i64 (i:Int)∧wr = w∧Hid (∀ j,j < i→(P.getD j []).length≤60)) (fun v6 _ => n - (intOf v6).toNat)
 case atStart => exact ⟨0,Nat.zero_le _,by omega,rfl,rfl,fun j hj => absurd hj (Nat.not_lt_zero _)⟩
 case round =>
  obtain ⟨i,hil,hi61,rfl,rfl,H⟩:=hrel
  by_cases hit:i < n
  ·
   have hii:(i:Int) < (n:Int):=by omega
   have hi0:(0:Int)≤(i:Int):=by omega
   by_cases h60:60 < i
   ·
    have h60':(60:Int) < (i:Int):=by omega
    go_wp2_with fail
    go_ret
    exact ⟨rfl,true,rfl,fun h => by cases h⟩
   ·
    have h60':¬ (60:Int) < (i:Int):=by omega
    have hiL:i < P.length:=by have:=HL.out.2; omega
    obtain ⟨b,off,rfl,ra,rc,hc,_⟩:=HL.out.1.row hiL
    have c1:=hc _ (Kept.refl _)
    have HS:=hid (fun (h:(P.getD i []).length≤60) j (hj:j < i + 1) => (show (P.getD j []).length≤60 by
     by_cases e:j < i
     ·
      exact H.out j e
     ·
      obtain rfl:j = i:=by omega
      exact h))
    clear hc
    generalize (P.getD i []).length = rl at c1 HS
    by_cases hr:60 < rl
    ·
     have hr':(60:Int) < (rl:Int):=by omega
     go_wp2_with fail
     go_ret
     exact ⟨rfl,true,rfl,fun h => by cases h⟩
    ·
     have hr':¬ (60:Int) < (rl:Int):=by omega
     go_wp2_with fail
     go_roundw
     case rel => exact ⟨i + 1,by omega,by omega,by go_num,by first | rfl | trivial,HS.out (by omega)⟩
     case measure => show n - ((i:Int) + 1).toNat < n - (i:Int).toNat; omega
  ·
   have hii:¬ (i:Int) < (n:Int):=by omega
   go_wp2_with fail
   go_ret
   refine ⟨rfl,false,rfl,fun _ => ⟨by omega,fun l hl => ?_⟩⟩
   obtain ⟨j,hj,rfl⟩:=List.getElem_of_mem hl
   have:=H.out j (by have:=HL.out.2; omega)
   rw [List.getD_eq_getElem?_getD,List.getElem?_eq_getElem hj] at this
   exact this
def cntP (P:List (List Int)) (i:Nat):Nat:=((P.take i).map List.length).sum
theorem mP_true {P:List (List Int)} {i:Nat} {x:Nat}:mP P i x = true ↔ (x:Int) ∈ P.getD i []:=by
 unfold mP
 rw [decide_eq_true_eq]
end Sp
end Go.Proofs.Ytlciijlgiknljaa

namespace Go.Proofs.Ytlciijlgiknljaa
namespace Sp
theorem thinP_at {n i k:Nat} {m:Nat→Nat→Bool} (h:i < k):(thinP n m k).getD i [] = thinR m i n:=by
 unfold thinP
 rw [List.getD_eq_getElem?_getD,List.getElem?_map,List.getElem?_range h]
 rfl
theorem mP_thin {n i k:Nat} {m:Nat→Nat→Bool} (hi:i < n) (hk:k < n):mP (thinP n m n) i k = m i k:=by
 rw [Bool.eq_iff_iff,mP_true,thinP_at hi]
 unfold thinR
 rw [List.mem_map]
 constructor
 ·
  rintro ⟨x,hx,e⟩
  have e:x = k:=Int.ofNat.inj e
  subst e
  exact (List.mem_filter.1 hx).2
 ·
  intro h
  exact ⟨k,List.mem_filter.2 ⟨List.mem_range.2 hk,h⟩,rfl⟩
theorem rowOk_sorted {n:Nat}:∀ {l:List Nat} {last:Int},l.Pairwise (· < ·)→(∀ x ∈ l,last < (x:Int)∧x < n)→rowOk n last (l.map Int.ofNat) = true:=by
 intro l
 induction l with
 | nil => intro last _ _; rfl
 | cons x t ih =>
  intro last hp h
  have h1:=h x (List.mem_cons_self ..)
  rw [List.pairwise_cons] at hp
  show ((decide (last < (x:Int)) && decide ((x:Int) < (n:Int))) && rowOk n (x:Int) (t.map Int.ofNat)) = true
  rw [decide_eq_true h1.1,decide_eq_true (by omega),ih hp.2 (fun y hy => ⟨by have:=hp.1 y hy; omega,(h y (List.mem_cons_of_mem _ hy)).2⟩)]
  rfl
theorem okP_thin {n:Nat} {m:Nat→Nat→Bool} (hn:n≤48):okP (thinP n m n) = true:=by
 unfold okP
 rw [thinP_len,decide_eq_true hn,Bool.true_and,List.all_eq_true]
 intro l hl
 unfold thinP at hl
 obtain ⟨i,_,rfl⟩:=List.mem_map.1 hl
 unfold thinR
 refine rowOk_sorted (List.Pairwise.filter _ List.pairwise_lt_range) (fun x hx => ?_)
 have:=List.mem_range.1 (List.mem_filter.1 hx).1
 exact ⟨by omega,this⟩
theorem elim_congr {n:Nat} {m m':Nat→Nat→Bool} {r c:Nat} (hr:r < n) (hc:c < n) (h:∀ i k,i < n→k < n→m i k = m' i k):∀ i k,i < n→k < n→elim m r c i k = elim m' r c i k:=by
 intro i k hi hk
 unfold elim
 rw [h i k hi hk,h i c hi hc,h r k hr hk]
theorem leftL_snoc (m:Nat→Nat→Bool) (l:List (Nat × Nat)) (q:Nat × Nat):leftL m (l ++ [q]) = elim (leftL m l) q.1 q.2:=by
 induction l generalizing m with
 | nil => rfl
 | cons p t ih => exact ih (elim m p.1 p.2)
theorem fits_drop (n:Nat) (l:List (Nat × Nat)):∀ (m:Nat→Nat→Bool) (i:Nat),fitsL n m l→fitsL n (leftL m (l.take i)) (l.drop i):=by
 induction l with
 | nil => intro m i _; rw [List.take_nil,List.drop_nil]; trivial
 | cons p t ih =>
  intro m i h
  cases i with
  | zero => exact h
  | succ i => exact ih _ i h.2.2.2
theorem fits_at {n:Nat} {m:Nat→Nat→Bool} {l:List (Nat × Nat)} (h:fitsL n m l) {i:Nat} (hi:i < l.length):l[i].1 < n∧l[i].2 < n∧leftL m (l.take i) l[i].1 l[i].2 = true:=by
 have h1:=fits_drop n l m i h
 rw [List.drop_eq_getElem_cons hi] at h1
 exact ⟨h1.1,h1.2.1,h1.2.2.1⟩
def toI (l:List (Nat × Nat)):List (Int × Int):=l.map fun q => ((q.1:Int),(q.2:Int))
theorem zip_fs (l:List (Nat × Nat)):(fstI l).zip (sndI l) = toI l:=by
 induction l with
 | nil => rfl
 | cons p t ih =>
  show (_ :: (fstI t).zip (sndI t)) = _
  rw [ih]
  rfl
theorem hasM_of {n:Nat} {m:Nat→Nat→Bool} {r k:Nat} (hr:r < n) (hk:k < n) (h:m r k = true):hasM n m (r:Int) (k:Int) = true:=by
 unfold hasM
 rw [decide_eq_true (by omega),decide_eq_true (by omega),decide_eq_true (by omega),decide_eq_true (by omega)]
 exact h
theorem fillGo_fits (n:Nat) (l:List (Nat × Nat)):∀ (m:Nat→Nat→Bool) (all:Nat),fitsL n m l→fillGo n m (toI l) all = (((all + fillL n m l:Nat):Int),0):=by
 induction l with
 | nil => intro m all _; rfl
 | cons p t ih =>
  intro m all h
  obtain ⟨h1,h2,h3,h4⟩:=h
  show (if hasM n m (p.1:Int) (p.2:Int) = true then fillGo n (elim m ((p.1:Int)).toNat ((p.2:Int)).toNat) (toI t) (all + fillC n m ((p.1:Int)).toNat ((p.2:Int)).toNat) else (0,1)) = _
  rw [if_pos (hasM_of h1 h2 h3),Int.toNat_natCast,Int.toNat_natCast,ih _ _ h4]
  show (((all + fillC n m p.1 p.2 + fillL n (elim m p.1 p.2) t:Nat):Int),(0:Int)) = (((all + (fillC n m p.1 p.2 + fillL n (elim m p.1 p.2) t):Nat):Int),0)
  rw [Nat.add_assoc]
theorem order_fits {P:List (List Int)} (hok:okP P = true):fitsL P.length (mP P) (orderS P)∧(orderS P).length≤P.length∧∀ i k,i < P.length→k < P.length→leftL (mP P) (orderS P) i k = false:=by
 unfold orderS
 rw [if_pos hok]
 have h:=order_ends P.length P.length (mP P) (live_le _ _)
 exact ⟨h.1,Nat.le_trans h.2.1 (live_le _ _),h.2.2⟩
theorem order_fill {P:List (List Int)} (hok:okP P = true):fillS P (fstI (orderS P)) (sndI (orderS P)) = (((fillL P.length (mP P) (orderS P):Nat):Int),0):=by
 unfold fillS
 rw [if_pos hok,if_pos (by unfold fstI sndI; rw [List.length_map,List.length_map]),zip_fs,fillGo_fits _ _ _ _ (order_fits hok).1,Nat.zero_add]
theorem fst_at {l:List (Nat × Nat)} {i:Nat} (h:i < l.length):(fstI l).getD i 0 = (l[i].1:Int)∧(sndI l).getD i 0 = (l[i].2:Int):=by
 unfold fstI sndI
 rw [List.getD_eq_getElem?_getD,List.getD_eq_getElem?_getD,List.getElem?_map,List.getElem?_map,List.getElem?_eq_getElem h]
 exact ⟨rfl,rfl⟩
theorem unlike_at {l:List (Nat × Nat)} (h:(l.map Prod.fst).Nodup∧(l.map Prod.snd).Nodup) {k i:Nat} (hk:k < i) (hi:i < l.length):l[k].1 ≠ l[i].1∧l[k].2 ≠ l[i].2:=by
 have h1:=(List.pairwise_iff_getElem.1 h.1) k i (by rw [List.length_map]; omega) (by rw [List.length_map]; omega) hk
 have h2:=(List.pairwise_iff_getElem.1 h.2) k i (by rw [List.length_map]; omega) (by rw [List.length_map]; omega) hk
 rw [List.getElem_map,List.getElem_map] at h1 h2
 exact ⟨h1,h2⟩
theorem row_empty {Q:List (List Int)} (hok:okP Q = true) (h:∀ i k,i < Q.length→k < Q.length→mP Q i k = false) {i:Nat} (hi:i < Q.length):(Q.getD i []).length = 0:=by
 cases hl:Q.getD i [] with
 | nil => rfl
 | cons x t =>
  have hm:x ∈ Q.getD i []:=by rw [hl]; exact List.mem_cons_self ..
  have h1:=okP_mem hok hi x hm
  obtain ⟨y,rfl⟩:=Int.eq_ofNat_of_zero_le h1.1
  have h2:=h i y hi (by omega)
  rw [mP_true.2 hm] at h2
  cases h2
theorem elim_next {Q:List (List Int)} {n:Nat} {cur:Nat→Nat→Bool} {r c:Nat} (hn:n = Q.length) (hok:okP Q = true) (hm:∀ i k,i < n→k < n→mP Q i k = cur i k) (hr:r < n) (hc:c < n) (h:cur r c = true) :
  ∃ Q',elimS Q (r:Int) (c:Int) = (Q',0)∧n = Q'.length∧okP Q' = true∧∀ i k,i < n→k < n→mP Q' i k = elim cur r c i k:=by
 have h48:=okP_len hok
 refine ⟨thinP n (elim (mP Q) r c) n,?_,(thinP_len _ _ _).symm,okP_thin (by omega),fun i k hi hk => ?_⟩
 ·
  unfold elimS
  rw [if_pos hok,← hn,if_pos (hasM_of hr hc (by rw [hm r c hr hc]; exact h)),Int.toNat_natCast,Int.toNat_natCast]
 ·
  rw [mP_thin hi hk]
  exact elim_congr hr hc hm i k hi hk
end Sp
end Go.Proofs.Ytlciijlgiknljaa

namespace Go.Proofs.Ytlciijlgiknljaa
open Go.RowKit
namespace Sp
set_option maxRecDepth 100000 in
set_option maxHeartbeats 8000000 in
theorem orders13_any (ao:Option Addr) (n c:Nat) (P:List (List Int)) (w:World) (h:PatR w (.slice ao n c) P) :
  Calls Try.prog 5 #[.slice ao n c] w fun e w' => Kept w w'∧e = .returned (.bool true):=by
 have HN:=hid h.len
 have HL:=hid h
 clear h
 go_enter Try.func5,Try.ntmps5
 go_wp2_with fail
 refine (awake13_any _).mono ?_
 rintro e w1 ⟨hk,rfl⟩
 have HK:=hid hk
 clear hk
 go_wp2_with fail
 refine (wide_any ao n c P _ (HL.out.kept HK.out)).mono ?_
 rintro e w2 ⟨rfl,b,rfl,hb⟩
 cases b with
 | true =>
  go_wp2_with fail
  go_ret
  exact ⟨HK.out,rfl⟩
 | false =>
  obtain ⟨hn,hr⟩:=hb rfl
  have HR6:=hid (fun l hl => Nat.le_trans (hr l hl) (show 60≤1000000 by omega))
  clear hb hr
  go_wp2_with fail
  refine (rcheck_any ao n c P _ (HL.out.kept HK.out) (by omega) HR6.out).mono ?_
  rintro e w3 ⟨hk,rfl⟩
  have HK:=hid (HK.out.trans hk)
  clear hk
  cases hok:okP P with
  | false =>
   have hc:chkP P = 130:=by unfold chkP; rw [if_neg (by rw [hok]; decide)]
   rw [hc]
   clear hc hok
   go_wp2_with fail
   go_ret
   exact ⟨HK.out,rfl⟩
  | true =>
   have hc:chkP P = 0:=by unfold chkP; rw [if_pos hok]
   have HOK:=hid hok
   have HF:=hid (And.intro (order_fill hok) (And.intro (order_fits hok) (fits_unlike _ _ _ (order_fits hok).1)))
   rw [hc]
   clear hok
   go_wp2_with fail
   refine (sp_order ao n c P _ (HL.out.kept HK.out) (by omega) HR6.out).mono ?_
   rintro e w4 ⟨hk,v,u,rfl,hv,hu,_⟩
   have HK:=hid (HK.out.trans hk)
   rw [hc]
   clear hk hc
   generalize orderS P = od at hv hu HF
   obtain ⟨va,vc,rfl⟩:=own_shape hv
   obtain ⟨ua,uc,rfl⟩:=own_shape hu
   obtain ⟨ol,hol⟩:∃ x,x = od.length:=⟨_,rfl⟩
   have e1:(fstI od).length = ol:=by unfold fstI; rw [List.length_map]; exact hol.symm
   have e2:(sndI od).length = ol:=by unfold sndI; rw [List.length_map]; exact hol.symm
   rw [e1] at hv ⊢
   rw [e2] at hu ⊢
   have HV:=hid (And.intro (show ISl w4 (.slice va ol vc) (fstI od) from OwnI.isl hv) (show ISl w4 (.slice ua ol uc) (sndI od) from OwnI.isl hu))
   have hob:ol≤n:=by have h1:=HF.out.2.1.2.1; have h2:=HN.out; omega
   have hob':¬ (n:Int) < (ol:Int):=by omega
   have HO:=hid (And.intro hol (And.intro e1 e2))
   clear hv hu e1 e2 hol
   --%A
   go_wp2_with fail
   refine (sp_fill ao n c va ol vc ua ol uc P (fstI od) (sndI od) _ (HL.out.kept HK.out) HV.out.1 HV.out.2 (by omega) HR6.out (by omega)).mono ?_
   rintro e w5 ⟨hk,rfl⟩
   rw [HF.out.1]
   have HV:=hid (And.intro (HV.out.1.kept hk) (HV.out.2.kept hk))
   have HK:=hid (HK.out.trans hk)
   clear hk
   generalize fillL P.length (mP P) od = fl at HF ⊢
   have hfl:¬ (fl:Int) < 0:=by omega
   go_wp2_with fail
   --%B
   go_loopw [8,60] (fun v8 v60 wr => ∃ (i:Nat) (qa:Option Addr) (qc:Nat) (Q:List (List Int)),i≤ol∧v8 = .slice qa n qc∧v60 = .int .i64 (i:Int)∧Hid (Kept w5 wr∧PatR wr (.slice qa n qc) Q∧n = Q.length∧okP Q = true∧(∀ l ∈ Q,l.length≤1000000)∧∀ a b,a < n→b < n→mP Q a b = leftL (mP P) (od.take i) a b)) (fun _ v60 _ => ol - (intOf v60).toNat)
   case atStart => exact ⟨0,ao,c,P,Nat.zero_le _,rfl,rfl,Kept.refl _,HL.out.kept HK.out,HN.out,HOK.out,HR6.out,fun a b _ _ => rfl⟩
   case round =>
    obtain ⟨i,qa,qc,Q,hil,rfl,rfl,H⟩:=hrel
    generalize wr = w6 at H ⊢
    by_cases hit:i < ol
    ·
     have hii:(i:Int) < (ol:Int):=by omega
     have hi0:(0:Int)≤(i:Int):=by omega
     have hiL:i < od.length:=by have:=HO.out.1; omega
     obtain ⟨b1,o1,rfl,hc1⟩:=HV.out.1.at (show i < (fstI od).length by have:=HO.out.2.1; omega)
     obtain ⟨b2,o2,rfl,hc2⟩:=HV.out.2.at (show i < (sndI od).length by have:=HO.out.2.2; omega)
     rw [(fst_at hiL).1] at hc1
     rw [(fst_at hiL).2] at hc2
     have hfa:=fits_at HF.out.2.1.1 hiL
     obtain ⟨Q',hq1,hq2,hq3,hq4⟩:=elim_next H.out.2.2.1 H.out.2.2.2.1 H.out.2.2.2.2.2 (by rw [HN.out]; exact hfa.1) (by rw [HN.out]; exact hfa.2.1) hfa.2.2
     have HQ:=hid (And.intro hq1 (And.intro hq2 (And.intro hq3 (show ∀ a b,a < n→b < n→mP Q' a b = leftL (mP P) (od.take (i + 1)) a b by
      intro a b ha hb
      rw [List.take_succ_eq_append_getElem hiL,leftL_snoc]
      exact hq4 a b ha hb))))
     have HU:=hid (fun k (hk:k < i) => (unlike_at HF.out.2.2 hk hiL))
     have HC:=hid (And.intro hc1 hc2)
     clear hc1 hc2 hfa hq1 hq2 hq3 hq4
     --%C
     go_wp2_with fail
     go_loopw [64] (fun v64 wr => ∃ (k:Nat),k≤i∧v64 = .int .i64 (k:Int)∧Hid (Kept w6 wr)) (fun v64 _ => i - (intOf v64).toNat)
     case atStart => exact ⟨0,Nat.zero_le _,rfl,Kept.refl _⟩
     case round =>
      obtain ⟨k,hkl,rfl,K⟩:=hrel
      by_cases hkt:k < i
      ·
       have hkk:(k:Int) < (i:Int):=by omega
       have hk0:(0:Int)≤(k:Int):=by omega
       have hkO:(k:Int) < (ol:Int):=by omega
       have hkL:k < od.length:=by omega
       obtain ⟨b1',o1',g1,hd1⟩:=HV.out.1.at (show k < (fstI od).length by have:=HO.out.2.1; omega)
       obtain ⟨b2',o2',g2,hd2⟩:=HV.out.2.at (show k < (sndI od).length by have:=HO.out.2.2; omega)
       simp only [Option.some.injEq,Addr.mk.injEq,and_true] at g1 g2
       obtain ⟨rfl,rfl⟩:=g1
       obtain ⟨rfl,rfl⟩:=g2
       rw [(fst_at hkL).1] at hd1
       rw [(fst_at hkL).2] at hd2
       have hu:=HU.out k hkt
       have HX:=hid (And.intro hd1 hd2)
       clear hd1 hd2
       --%D
       go_upto_region 18 with fail
       have kd:=(H.out.1.trans K.out).trans (Kept.refl wr).drew
       have hcc:=And.intro (HX.out.1 _ kd) (And.intro (HX.out.2 _ kd) (And.intro (HC.out.1 _ kd) (HC.out.2 _ kd)))
       have HKd:=hid (K.out.trans (Kept.refl wr).drew)
       generalize hg1:od[k].1 = x1 at hcc hu
       generalize hg2:od[k].2 = x2 at hcc hu
       generalize hg3:od[i].1 = y1 at hcc hu
       generalize hg4:od[i].2 = y2 at hcc hu
       clear hg1 hg2 hg3 hg4
       have hu1:((x1:Int) == (y1:Int)) = false:=by simp; omega
       have hu2:((x2:Int) == (y2:Int)) = false:=by simp; omega
       clear hu
       refine wp_region_held_drew (S:=fun w' => w'.cell? ⟨b1,o1 + k,none⟩ = some (.int .i64 (x1:Int))∧w'.cell? ⟨b2,o2 + k,none⟩ = some (.int .i64 (x2:Int))∧w'.cell? ⟨b1,o1 + i,none⟩ = some (.int .i64 (y1:Int))∧w'.cell? ⟨b2,o2 + i,none⟩ = some (.int .i64 (y2:Int))) (by kernel_rfl) hcc (fun hHeld => ?_)
       generalize wr.drew = w7 at HKd hHeld ⊢
       clear kd K hcc
       refine tk 0 hHeld ?_
       refine tk 1 hHeld ?_
       refine tk 2 hHeld ?_
       refine tk 3 hHeld ?_
       refine tk 4 hHeld ?_
       refine tk 5 hHeld ?_
       refine tk 6 hHeld ?_
       refine tk 7 hHeld ?_
       refine tk 8 hHeld ?_
       refine tk 9 hHeld ?_
       refine tk 10 hHeld ?_
       refine tk 11 hHeld ?_
       refine tk 12 hHeld ?_
       refine tk 13 hHeld ?_
       refine tk 14 hHeld ?_
       refine tk 15 hHeld ?_
       refine tk 16 hHeld ?_
       refine tk 17 hHeld ?_
       refine tk 18 hHeld ?_
       refine tk 19 hHeld ?_
       refine _root_.Go.Proofs.Ytlciijlgiknljaa.dn ?_
       clear hHeld
       go_wp2_with fail
       go_roundw
       case rel => exact ⟨k + 1,by omega,by go_num,HKd.out⟩
       case measure => show i - ((k:Int) + 1).toNat < i - (k:Int).toNat; omega
      ·
       --%E
       have hkk:¬ (k:Int) < (i:Int):=by omega
       go_upto_region 21 with fail
       have kd:=(H.out.1.trans K.out).trans (Kept.refl wr).drew
       have hcc:=And.intro (HC.out.1 _ kd) (HC.out.2 _ kd)
       have HK8:=hid (And.intro kd (H.out.2.1.kept (K.out.trans (Kept.refl wr).drew)))
       obtain ⟨y1,hg3⟩:∃ y,y = od[i].1:=⟨_,rfl⟩
       obtain ⟨y2,hg4⟩:∃ y,y = od[i].2:=⟨_,rfl⟩
       rw [← hg3,← hg4] at hcc HQ
       have HC2:=hid (show (∀ V,Kept w5 V→V.cell? ⟨b1,o1 + i,none⟩ = some (.int .i64 (y1:Int)))∧(∀ V,Kept w5 V→V.cell? ⟨b2,o2 + i,none⟩ = some (.int .i64 (y2:Int))) by rw [hg3,hg4]; exact HC.out)
       clear hg3 hg4
       refine wp_region_held_drew (S:=fun w' => w'.cell? ⟨b1,o1 + i,none⟩ = some (.int .i64 (y1:Int))∧w'.cell? ⟨b2,o2 + i,none⟩ = some (.int .i64 (y2:Int))) (by kernel_rfl) hcc (fun hHeld => ?_)
       generalize wr.drew = w7 at HK8 hHeld ⊢
       clear kd K hcc
       refine tk 0 hHeld ?_
       refine tk 1 hHeld ?_
       refine tk 2 hHeld ?_
       refine tk 3 hHeld ?_
       refine tk 4 hHeld ?_
       refine tk 5 hHeld ?_
       refine tk 6 hHeld ?_
       refine tk 7 hHeld ?_
       refine tk 8 hHeld ?_
       refine rdy 9 fun K hK => ?_
       go_simp
       refine (sp_elim qa n qc Q (y1:Int) (y2:Int) _ HK8.out.2 (by omega) H.out.2.2.2.2.1).mono ?_
       rintro e w9 ⟨hk,t,rfl,hT⟩
       have kw:=HK8.out.1.trans hk
       rw [HQ.out.1] at hT ⊢
       obtain ⟨ta,tc,rfl⟩:=hT.shape
       have HT:=hid (And.intro kw (show PatR w9 (.slice ta Q'.length tc) Q' from hT.pat))
       refine hK.out _ _ ⟨HC2.out.1 _ kw,HC2.out.2 _ kw⟩ (fun hHeld => ?_)
       have hln:=HQ.out.2.1
       rw [← hln] at HT ⊢
       have HLN:=hid hln
       clear hK K hk hT kw hln
       go_simp
       refine tk 10 hHeld ?_
       refine tk 11 hHeld ?_
       refine tk 12 hHeld ?_
       refine tk 13 hHeld ?_
       refine tk 14 hHeld ?_
       refine _root_.Go.Proofs.Ytlciijlgiknljaa.dn ?_
       clear hHeld
       --%F
       go_wp2_with fail
       go_roundw
       case rel => exact ⟨i + 1,ta,tc,Q',by omega,rfl,by go_num,HT.out.1,HT.out.2,HLN.out,HQ.out.2.2.1,fun l hl => by
        obtain ⟨j,hj,rfl⟩:=List.getElem_of_mem hl
        have h1:=rowOk_long (okP_row HQ.out.2.2.1 hj) (by omega)
        rw [List.getD_eq_getElem?_getD,List.getElem?_eq_getElem hj] at h1
        have h2:((Q'[j].length:Nat):Int) + -1 < (Q'.length:Int):=h1
        have h3:=HLN.out
        omega,HQ.out.2.2.2⟩
       case measure => show ol - ((i:Int) + 1).toNat < ol - (i:Int).toNat; omega
    ·
     --%G
     have hii:¬ (i:Int) < (ol:Int):=by omega
     have HEM:=hid (show ∀ j,j < n→(Q.getD j []).length = 0 from fun j hj => row_empty H.out.2.2.2.1 (fun a b ha hb => by
      rw [H.out.2.2.2.2.2 a b (by have:=H.out.2.2.1; omega) (by have:=H.out.2.2.1; omega),List.take_of_length_le (by have:=HO.out.1; omega)]
      exact HF.out.2.1.2.2 a b (by have h1:=H.out.2.2.1; have h2:=HN.out; omega) (by have h1:=H.out.2.2.1; have h2:=HN.out; omega)) (by have:=H.out.2.2.1; omega))
     go_wp2_with fail
     go_loopw [106] (fun v106 wr => ∃ (j:Nat),j≤n∧v106 = .int .i64 (j:Int)∧Hid (Kept w6 wr)) (fun v106 _ => n - (intOf v106).toNat)
     case atStart => exact ⟨0,Nat.zero_le _,rfl,Kept.refl _⟩
     case round =>
      obtain ⟨j,hjl,rfl,K⟩:=hrel
      by_cases hjt:j < n
      ·
       have hjj:(j:Int) < (n:Int):=by omega
       have hj0:(0:Int)≤(j:Int):=by omega
       obtain ⟨b,off,rfl,ra,rc,hc,_⟩:=H.out.2.1.row (show j < Q.length by have:=H.out.2.2.1; omega)
       have c1:=hc _ K.out
       rw [HEM.out j hjt] at c1
       clear hc
       go_wp2_with fail
       go_roundw
       case rel => exact ⟨j + 1,by omega,by go_num,K.out⟩
       case measure => show n - ((j:Int) + 1).toNat < n - (j:Int).toNat; omega
      ·
       have hjj:¬ (j:Int) < (n:Int):=by omega
       go_wp2_with fail
       go_ret
       exact ⟨(HK.out.trans H.out.1).trans K.out,rfl⟩
end Sp
end Go.Proofs.Ytlciijlgiknljaa

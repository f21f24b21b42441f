/- shuntref09.Ints of equal lists; rows that a literal makes; shuntlaw13.awake. shuntlaw13: wide, SparseFills, SparseBest. SparseBest's walk. -/
import Derived.Test.YtlciijlgiknljaaGaf
import Derived.Test.YtlciijlgiknljaaGae
namespace Go.Proofs.Ytlciijlgiknljaa
open Go.RowKit
open V (RowL RowL.alloc RowL.lt RowL.cell RowL.fz RowL.kept RowL.block RowL.set RowL.far)
namespace Sp
set_option maxRecDepth 100000 in
set_option maxHeartbeats 8000000 in
theorem ints_any (a1:Option Addr) (n c1:Nat) (a2:Option Addr) (c2:Nat) (l:List Int) (w:World) (h1:ISl w (.slice a1 n c1) l) (h2:ISl w (.slice a2 n c2) l) (hn:n≤1000000) :
  Calls Try.prog 21 #[.slice a1 n c1,.slice a2 n c2] w fun e w' => Kept w w'∧e = .returned (.bool true):=by
 have hl:=h1.len
 have HL:=hid (And.intro h1 (And.intro h2 hl))
 clear h1 h2 hl
 go_enter Try.func21,Try.ntmps21
 go_wp2_with fail
 go_loopw [5] (fun v5 wr => ∃ (i:Nat),i≤n∧v5 = .int .i64 (i:Int)∧Hid (Kept w wr)) (fun v5 _ => n - (intOf v5).toNat)
 case atStart => exact ⟨0,Nat.zero_le _,rfl,Kept.refl _⟩
 case round =>
  obtain ⟨i,hi,rfl,H⟩:=hrel
  by_cases hit:i < n
  ·
   have hii:(i:Int) < (n:Int):=by omega
   have hi0:(0:Int)≤(i:Int):=by omega
   have HK:=hid (H.out.trans (Kept.refl wr).drew)
   have hiL:i < l.length:=by have:=HL.out.2.2; omega
   obtain ⟨b1,o1,rfl,hd1⟩:=HL.out.1.at hiL
   obtain ⟨b2,o2,rfl,hd2⟩:=HL.out.2.1.at hiL
   have k1:=hd1 _ HK.out
   have k2:=hd2 _ HK.out
   clear hd1 hd2
   generalize l.getD i 0 = x at k1 k2
   go_upto_region 6 with fail
   refine wp_region_held_drew (S:=fun w' => w'.cell? ⟨b1,o1 + i,none⟩ = some (.int .i64 x)∧w'.cell? ⟨b2,o2 + i,none⟩ = some (.int .i64 x)) (by kernel_rfl) ⟨k1,k2⟩ (fun hHeld => ?_)
   clear k1 k2
   generalize wr.drew = Wd at HK hHeld ⊢
   refine tk 0 hHeld ?_
   refine tk 1 hHeld ?_
   refine tk 2 hHeld ?_
   refine tk 3 hHeld ?_
   refine tk 4 hHeld ?_
   refine tk 5 hHeld ?_
   refine tk 6 hHeld ?_
   refine tk 7 hHeld ?_
   refine tk 8 hHeld ?_
   refine _root_.Go.Proofs.Ytlciijlgiknljaa.dn ?_
   clear hHeld
   go_wp2_with fail
   go_roundw
   case rel => exact ⟨i + 1,by omega,by go_num,HK.out⟩
   case measure => show n - ((i:Int) + 1).toNat < n - (i:Int).toNat; omega
  ·
   have hii:¬ (i:Int) < (n:Int):=by omega
   go_wp2_with fail
   go_ret
   exact ⟨H.out,rfl⟩
theorem isl_row {w:World} {p n c:Nat} {l:List Int} (h:RowL 3 w p (l.map (Value.int .i64))) (hn:n = l.length):ISl w (.slice (some ⟨p,0,none⟩) n c) l:=by
 subst hn
 refine ⟨_,_,rfl,fun _ => ⟨p,0,rfl,h.lt,fun j hj => ?_⟩⟩
 rw [Nat.zero_add]
 refine h.cell j _ ?_
 rw [List.getElem?_map,List.getD_eq_getElem?_getD,List.getElem?_eq_getElem hj]
 rfl
theorem isl_nil {w:World}:ISl w (.slice none 0 0) []:=⟨none,0,rfl,fun h => absurd h (by decide)⟩
theorem pat_row {w:World} {q n c:Nat} {hs:List Value} {P:List (List Int)} (h:RowL 41 w q hs) (hn:n = P.length) (hr:∀ i,i < P.length→∃ ra rc,hs[i]? = some (.slice ra (P.getD i []).length rc)∧ISl w (.slice ra (P.getD i []).length rc) (P.getD i [])):PatR w (.slice (some ⟨q,0,none⟩) n c) P:=by
 subst hn
 refine ⟨_,_,rfl,fun _ => ⟨q,0,rfl,h.lt,fun i hi => ?_⟩⟩
 obtain ⟨ra,rc,h1,h2⟩:=hr i hi
 refine ⟨ra,rc,?_,h2⟩
 rw [Nat.zero_add]
 exact h.cell i _ h1
def pA:List (List Int):=[[0,1,2],[0,1],[0,2]]
theorem pA_len:∀ l ∈ pA,l.length≤1000000:=by decide
theorem a_order:orderS pA = [(1,1),(0,0),(2,2)]:=by kernel_rfl
theorem a_chk:chkP pA = 0:=by kernel_rfl
theorem a_fill:fillS pA [0,1,2] [0,1,2] = (2,0):=by kernel_rfl
theorem a_elim:elimS pA 1 1 = ([[0,2],[],[0,2]],0):=by kernel_rfl
theorem a_best:bestS pA = some (1,1):=by kernel_rfl
theorem a_cost:costS pA 0 0 = (4,0):=by kernel_rfl
theorem a_bad:chkP [[1]] = 130:=by kernel_rfl
theorem alloc_size (w:World) (o:Obj):(w.alloc o).heap.size = w.heap.size + 1:=by simp
theorem lit3 (w:World) (x1 x2 x3:List Int):Kept w ((((w.alloc (.cells (x1.map (Value.int .i64)).toArray 3)).alloc (.cells (x2.map (Value.int .i64)).toArray 3)).alloc (.cells (x3.map (Value.int .i64)).toArray 3)).alloc (.cells #[.slice (some ⟨w.heap.size,0,none⟩) x1.length x1.length,.slice (some ⟨w.heap.size + 1,0,none⟩) x2.length x2.length,.slice (some ⟨w.heap.size + 1 + 1,0,none⟩) x3.length x3.length] 41)) ∧
  PatR ((((w.alloc (.cells (x1.map (Value.int .i64)).toArray 3)).alloc (.cells (x2.map (Value.int .i64)).toArray 3)).alloc (.cells (x3.map (Value.int .i64)).toArray 3)).alloc (.cells #[.slice (some ⟨w.heap.size,0,none⟩) x1.length x1.length,.slice (some ⟨w.heap.size + 1,0,none⟩) x2.length x2.length,.slice (some ⟨w.heap.size + 1 + 1,0,none⟩) x3.length x3.length] 41)) (.slice (some ⟨w.heap.size + 1 + 1 + 1,0,none⟩) 3 3) [x1,x2,x3]:=by
 have r1:=RowL.alloc 3 w (x1.map (Value.int .i64))
 have k1:=(Kept.refl w).alloc (.cells (x1.map (Value.int .i64)).toArray 3)
 have s1:=alloc_size w (.cells (x1.map (Value.int .i64)).toArray 3)
 generalize w.alloc (.cells (x1.map (Value.int .i64)).toArray 3) = W1 at r1 k1 s1 ⊢
 have r2:=RowL.alloc 3 W1 (x2.map (Value.int .i64))
 have k2:=(Kept.refl W1).alloc (.cells (x2.map (Value.int .i64)).toArray 3)
 have s2:=alloc_size W1 (.cells (x2.map (Value.int .i64)).toArray 3)
 generalize W1.alloc (.cells (x2.map (Value.int .i64)).toArray 3) = W2 at r2 k2 s2 ⊢
 have r3:=RowL.alloc 3 W2 (x3.map (Value.int .i64))
 have k3:=(Kept.refl W2).alloc (.cells (x3.map (Value.int .i64)).toArray 3)
 have s3:=alloc_size W2 (.cells (x3.map (Value.int .i64)).toArray 3)
 generalize W2.alloc (.cells (x3.map (Value.int .i64)).toArray 3) = W3 at r3 k3 s3 ⊢
 have r4:=RowL.alloc 41 W3 [.slice (some ⟨w.heap.size,0,none⟩) x1.length x1.length,.slice (some ⟨w.heap.size + 1,0,none⟩) x2.length x2.length,.slice (some ⟨w.heap.size + 1 + 1,0,none⟩) x3.length x3.length]
 have k4:=(Kept.refl W3).alloc (.cells #[.slice (some ⟨w.heap.size,0,none⟩) x1.length x1.length,.slice (some ⟨w.heap.size + 1,0,none⟩) x2.length x2.length,.slice (some ⟨w.heap.size + 1 + 1,0,none⟩) x3.length x3.length] 41)
 rw [s3,s2,s1] at r4
 rw [s2,s1] at r3
 rw [s1] at r2
 refine ⟨((k1.trans k2).trans k3).trans k4,pat_row r4 rfl (fun i hi => ?_)⟩
 match i,hi with
 | 0,_ => exact ⟨_,_,rfl,isl_row (((r1.kept k2).kept k3).kept k4) rfl⟩
 | 1,_ => exact ⟨_,_,rfl,isl_row ((r2.kept k3).kept k4) rfl⟩
 | 2,_ => exact ⟨_,_,rfl,isl_row (r3.kept k4) rfl⟩
theorem lit2 (w:World) (x1 x2:List Int):Kept w (((w.alloc (.cells (x1.map (Value.int .i64)).toArray 3)).alloc (.cells (x2.map (Value.int .i64)).toArray 3)).alloc (.cells #[.slice (some ⟨w.heap.size,0,none⟩) x1.length x1.length,.slice none 0 0,.slice (some ⟨w.heap.size + 1,0,none⟩) x2.length x2.length] 41)) ∧
  PatR (((w.alloc (.cells (x1.map (Value.int .i64)).toArray 3)).alloc (.cells (x2.map (Value.int .i64)).toArray 3)).alloc (.cells #[.slice (some ⟨w.heap.size,0,none⟩) x1.length x1.length,.slice none 0 0,.slice (some ⟨w.heap.size + 1,0,none⟩) x2.length x2.length] 41)) (.slice (some ⟨w.heap.size + 1 + 1,0,none⟩) 3 3) [x1,[],x2]:=by
 have r1:=RowL.alloc 3 w (x1.map (Value.int .i64))
 have k1:=(Kept.refl w).alloc (.cells (x1.map (Value.int .i64)).toArray 3)
 have s1:=alloc_size w (.cells (x1.map (Value.int .i64)).toArray 3)
 generalize w.alloc (.cells (x1.map (Value.int .i64)).toArray 3) = W1 at r1 k1 s1 ⊢
 have r2:=RowL.alloc 3 W1 (x2.map (Value.int .i64))
 have k2:=(Kept.refl W1).alloc (.cells (x2.map (Value.int .i64)).toArray 3)
 have s2:=alloc_size W1 (.cells (x2.map (Value.int .i64)).toArray 3)
 generalize W1.alloc (.cells (x2.map (Value.int .i64)).toArray 3) = W2 at r2 k2 s2 ⊢
 have r4:=RowL.alloc 41 W2 [.slice (some ⟨w.heap.size,0,none⟩) x1.length x1.length,.slice none 0 0,.slice (some ⟨w.heap.size + 1,0,none⟩) x2.length x2.length]
 have k4:=(Kept.refl W2).alloc (.cells #[.slice (some ⟨w.heap.size,0,none⟩) x1.length x1.length,.slice none 0 0,.slice (some ⟨w.heap.size + 1,0,none⟩) x2.length x2.length] 41)
 rw [s2,s1] at r4
 rw [s1] at r2
 refine ⟨(k1.trans k2).trans k4,pat_row r4 rfl (fun i hi => ?_)⟩
 match i,hi with
 | 0,_ => exact ⟨_,_,rfl,isl_row ((r1.kept k2).kept k4) rfl⟩
 | 1,_ => exact ⟨_,_,rfl,isl_nil⟩
 | 2,_ => exact ⟨_,_,rfl,isl_row (r2.kept k4) rfl⟩
theorem lit1 (w:World) (x1:List Int):Kept w ((w.alloc (.cells (x1.map (Value.int .i64)).toArray 3)).alloc (.cells #[.slice (some ⟨w.heap.size,0,none⟩) x1.length x1.length] 41)) ∧
  PatR ((w.alloc (.cells (x1.map (Value.int .i64)).toArray 3)).alloc (.cells #[.slice (some ⟨w.heap.size,0,none⟩) x1.length x1.length] 41)) (.slice (some ⟨w.heap.size + 1,0,none⟩) 1 1) [x1]:=by
 have r1:=RowL.alloc 3 w (x1.map (Value.int .i64))
 have k1:=(Kept.refl w).alloc (.cells (x1.map (Value.int .i64)).toArray 3)
 have s1:=alloc_size w (.cells (x1.map (Value.int .i64)).toArray 3)
 generalize w.alloc (.cells (x1.map (Value.int .i64)).toArray 3) = W1 at r1 k1 s1 ⊢
 have r4:=RowL.alloc 41 W1 [.slice (some ⟨w.heap.size,0,none⟩) x1.length x1.length]
 have k4:=(Kept.refl W1).alloc (.cells #[.slice (some ⟨w.heap.size,0,none⟩) x1.length x1.length] 41)
 rw [s1] at r4
 refine ⟨k1.trans k4,pat_row r4 rfl (fun i hi => ?_)⟩
 match i,hi with
 | 0,_ => exact ⟨_,_,rfl,isl_row (r1.kept k4) rfl⟩
set_option maxRecDepth 100000 in
set_option maxHeartbeats 8000000 in
theorem awake13_any (w:World):Calls Try.prog 9 #[] w fun e w' => Kept w w'∧e = .returned (.bool true):=by
 have hA:=lit3 w [0,1,2] [0,1] [0,2]
 go_enter Try.func9,Try.ntmps9
 go_wp2_with fail
 --%A
 have hA:Kept w ((((w.alloc (.cells #[.int .i64 0,.int .i64 1,.int .i64 2] 3)).alloc (.cells #[.int .i64 0,.int .i64 1] 3)).alloc (.cells #[.int .i64 0,.int .i64 2] 3)).alloc (.cells #[.slice (some ⟨w.heap.size,0,none⟩) 3 3,.slice (some ⟨w.heap.size + 1,0,none⟩) 2 2,.slice (some ⟨w.heap.size + 1 + 1,0,none⟩) 2 2] 41))∧PatR ((((w.alloc (.cells #[.int .i64 0,.int .i64 1,.int .i64 2] 3)).alloc (.cells #[.int .i64 0,.int .i64 1] 3)).alloc (.cells #[.int .i64 0,.int .i64 2] 3)).alloc (.cells #[.slice (some ⟨w.heap.size,0,none⟩) 3 3,.slice (some ⟨w.heap.size + 1,0,none⟩) 2 2,.slice (some ⟨w.heap.size + 1 + 1,0,none⟩) 2 2] 41)) (.slice (some ⟨w.heap.size + 1 + 1 + 1,0,none⟩) 3 3) pA:=hA
 generalize (((w.alloc (.cells #[.int .i64 0,.int .i64 1,.int .i64 2] 3)).alloc (.cells #[.int .i64 0,.int .i64 1] 3)).alloc (.cells #[.int .i64 0,.int .i64 2] 3)).alloc (.cells #[.slice (some ⟨w.heap.size,0,none⟩) 3 3,.slice (some ⟨w.heap.size + 1,0,none⟩) 2 2,.slice (some ⟨w.heap.size + 1 + 1,0,none⟩) 2 2] 41) = W at hA ⊢
 generalize w.heap.size + 1 + 1 + 1 = q at hA ⊢
 have HA:=hid hA
 clear hA
 refine (sp_order _ 3 3 pA _ HA.out.2 (by omega) pA_len).mono ?_
 rintro e w1 ⟨hk,v,u,rfl,hv,hu,_⟩
 rw [a_order] at hv hu
 rw [a_chk]
 have HA:=hid (And.intro (HA.out.1.trans hk) (HA.out.2.kept hk))
 obtain ⟨va,vc,rfl⟩:=own_shape hv
 obtain ⟨ua,uc,rfl⟩:=own_shape hu
 have HV:=hid (And.intro (show ISl w1 (.slice va 3 vc) [1,0,2] from OwnI.isl hv) (show ISl w1 (.slice ua 3 uc) [1,0,2] from OwnI.isl hu))
 rw [show (fstI [(1,1),(0,0),(2,2)]).length = 3 from rfl,show (sndI [(1,1),(0,0),(2,2)]).length = 3 from rfl]
 clear hk hv hu
 --%B
 have r1:=RowL.alloc 3 w1 [.int .i64 0,.int .i64 1,.int .i64 2]
 have k1:=(Kept.refl w1).alloc (.cells #[.int .i64 0,.int .i64 1,.int .i64 2] 3)
 have s1:=alloc_size w1 (.cells #[.int .i64 0,.int .i64 1,.int .i64 2] 3)
 have r2:=RowL.alloc 3 (w1.alloc (.cells #[.int .i64 0,.int .i64 1,.int .i64 2] 3)) [.int .i64 0,.int .i64 1,.int .i64 2]
 have k2:=(Kept.refl (w1.alloc (.cells #[.int .i64 0,.int .i64 1,.int .i64 2] 3))).alloc (.cells #[.int .i64 0,.int .i64 1,.int .i64 2] 3)
 rw [s1] at r2
 have HF:=hid (And.intro (k1.trans k2) (And.intro (r1.kept k2) r2))
 clear r1 k1 s1 r2 k2
 go_wp2_with fail
 --%C
 refine (sp_fill _ 3 3 _ 3 3 _ 3 3 pA [0,1,2] [0,1,2] _ (HA.out.2.kept HF.out.1) (isl_row HF.out.2.1 rfl) (isl_row HF.out.2.2 rfl) (by omega) pA_len (by omega)).mono ?_
 rintro e w2 ⟨hk,rfl⟩
 rw [a_fill]
 have HA:=hid (And.intro ((HA.out.1.trans HF.out.1).trans hk) ((HA.out.2.kept HF.out.1).kept hk))
 have HV:=hid (And.intro ((HV.out.1.kept HF.out.1).kept hk) ((HV.out.2.kept HF.out.1).kept hk))
 clear hk HF
 go_wp2_with fail
 refine (sp_elim _ 3 3 pA 1 1 _ HA.out.2 (by omega) pA_len).mono ?_
 rintro e w3 ⟨hk,t,rfl,hT⟩
 rw [a_elim] at hT ⊢
 obtain ⟨ta,tc,rfl⟩:=hT.shape
 have HA:=hid (And.intro (HA.out.1.trans hk) (HA.out.2.kept hk))
 have HV:=hid (And.intro (HV.out.1.kept hk) (HV.out.2.kept hk))
 have HT:=hid (show PatR w3 (.slice ta 3 tc) [[0,2],[],[0,2]] from hT.pat)
 rw [show ([[0,2],[],[0,2]]:List (List Int)).length = 3 from rfl]
 clear hk hT
 --%D
 go_wp2_with fail
 refine (sp_best _ 3 3 pA _ HA.out.2 (by omega) pA_len).mono ?_
 rintro e w4 ⟨hk,rfl⟩
 rw [a_best,a_chk]
 have HA:=hid (And.intro (HA.out.1.trans hk) (HA.out.2.kept hk))
 have HV:=hid (And.intro (HV.out.1.kept hk) (HV.out.2.kept hk))
 have HT:=hid (HT.out.kept hk)
 clear hk
 go_wp2_with fail
 refine (sp_cost _ 3 3 pA 0 0 _ HA.out.2 (by omega) pA_len).mono ?_
 rintro e w5 ⟨hk,rfl⟩
 rw [a_cost]
 have HA:=hid (And.intro (HA.out.1.trans hk) (HA.out.2.kept hk))
 have HV:=hid (And.intro (HV.out.1.kept hk) (HV.out.2.kept hk))
 have HT:=hid (HT.out.kept hk)
 clear hk
 have r1:=RowL.alloc 3 w5 [.int .i64 1,.int .i64 0,.int .i64 2]
 have k1:=(Kept.refl w5).alloc (.cells #[.int .i64 1,.int .i64 0,.int .i64 2] 3)
 have HF:=hid (And.intro k1 r1)
 clear r1 k1
 --%E
 go_wp2_with fail
 --%F
 refine (ints_any va 3 vc _ 3 [1,0,2] _ (HV.out.1.kept HF.out.1) (isl_row HF.out.2 rfl) (by omega)).mono ?_
 rintro e w6 ⟨hk,rfl⟩
 have HA:=hid (And.intro ((HA.out.1.trans HF.out.1).trans hk) ((HA.out.2.kept HF.out.1).kept hk))
 have HV:=hid (And.intro ((HV.out.1.kept HF.out.1).kept hk) ((HV.out.2.kept HF.out.1).kept hk))
 have HT:=hid ((HT.out.kept HF.out.1).kept hk)
 clear hk HF
 go_wp2_with fail
 refine (ints_any ua 3 uc va vc [1,0,2] _ HV.out.2 HV.out.1 (by omega)).mono ?_
 rintro e w7 ⟨hk,rfl⟩
 have HK:=hid (HA.out.1.trans hk)
 have HT:=hid (HT.out.kept hk)
 clear hk HA HV
 have hB:=lit2 w7 [0,2] [0,2]
 have hB:Kept w7 (((w7.alloc (.cells #[.int .i64 0,.int .i64 2] 3)).alloc (.cells #[.int .i64 0,.int .i64 2] 3)).alloc (.cells #[.slice (some ⟨w7.heap.size,0,none⟩) 2 2,.slice none 0 0,.slice (some ⟨w7.heap.size + 1,0,none⟩) 2 2] 41))∧PatR (((w7.alloc (.cells #[.int .i64 0,.int .i64 2] 3)).alloc (.cells #[.int .i64 0,.int .i64 2] 3)).alloc (.cells #[.slice (some ⟨w7.heap.size,0,none⟩) 2 2,.slice none 0 0,.slice (some ⟨w7.heap.size + 1,0,none⟩) 2 2] 41)) (.slice (some ⟨w7.heap.size + 1 + 1,0,none⟩) 3 3) [[0,2],[],[0,2]]:=hB
 have HB:=hid hB
 clear hB
 go_wp2_with fail
 --%G
 refine (same_any ta 3 tc _ 3 [[0,2],[],[0,2]] _ (HT.out.kept HB.out.1) HB.out.2 (by omega) (by decide)).mono ?_
 rintro e w8 ⟨hk,rfl⟩
 have HK:=hid ((HK.out.trans HB.out.1).trans hk)
 clear hk HB HT
 have hB:=lit1 w8 [1]
 have hB:Kept w8 ((w8.alloc (.cells #[.int .i64 1] 3)).alloc (.cells #[.slice (some ⟨w8.heap.size,0,none⟩) 1 1] 41))∧PatR ((w8.alloc (.cells #[.int .i64 1] 3)).alloc (.cells #[.slice (some ⟨w8.heap.size,0,none⟩) 1 1] 41)) (.slice (some ⟨w8.heap.size + 1,0,none⟩) 1 1) [[1]]:=hB
 have HB:=hid hB
 clear hB
 go_wp2_with fail
 --%H
 refine (sp_check _ 1 1 [[1]] _ HB.out.2 (by omega) (by decide)).mono ?_
 rintro e w9 ⟨hk,rfl⟩
 rw [a_bad]
 have HK:=hid ((HK.out.trans HB.out.1).trans hk)
 clear hk HB
 go_wp2_with fail
 go_ret
 exact ⟨HK.out,rfl⟩
end Sp
end Go.Proofs.Ytlciijlgiknljaa

namespace Go.Proofs.Ytlciijlgiknljaa
open Go.RowKit
open V (RowL RowL.alloc RowL.lt RowL.cell RowL.fz RowL.kept RowL.block RowL.set RowL.far)
namespace Sp
def WideIs (e:Ending) (n:Nat) (P:List (List Int)):Prop:=∃ b,e = .returned (.bool b)∧(b = false→n≤61∧∀ l ∈ P,l.length≤60)
set_option maxRecDepth 100000 in
set_option maxHeartbeats 8000000 in
theorem wide_any (ao:Option Addr) (n c:Nat) (P:List (List Int)) (w:World) (h:PatR w (.slice ao n c) P) :
  Calls Try.prog 10 #[.slice ao n c] w fun e w' => w' = w∧WideIs e n P:=by
 have hl:=h.len
 have HL:=hid (And.intro h hl)
 clear h hl
 go_enter Try.func10,Try.ntmps10
 go_wp2_with fail
 go_loopw [6] (fun v6 wr => ∃ (i:Nat),i≤n∧i≤61∧v6 = .int .i64 (i:Int)∧wr = w∧Hid (∀ j,j < i→(P.getD j []).length≤60)) (fun v6 _ => n - (intOf v6).toNat)
 case atStart => exact ⟨0,Nat.zero_le _,by omega,rfl,rfl,fun j hj => absurd hj (Nat.not_lt_zero _)⟩
 case round =>
  obtain ⟨i,hil,hi61,rfl,rfl,H⟩:=hrel
  by_cases hit:i < n
  ·
   have hii:(i:Int) < (n:Int):=by omega
   have hi0:(0:Int)≤(i:Int):=by omega
   by_cases h60:60 < i
   ·
    have h60':(60:Int) < (i:Int):=by omega
    go_wp2_with fail
    go_ret
    exact ⟨rfl,true,rfl,fun h => by cases h⟩
   ·
    have h60':¬ (60:Int) < (i:Int):=by omega
    have hiL:i < P.length:=by have:=HL.out.2; omega
    obtain ⟨b,off,rfl,ra,rc,hc,_⟩:=HL.out.1.row hiL
    have c1:=hc _ (Kept.refl _)
    have HS:=hid (fun (h:(P.getD i []).length≤60) j (hj:j < i + 1) => (show (P.getD j []).length≤60 by
     by_cases e:j < i
     ·
      exact H.out j e
     ·
      obtain rfl:j = i:=by omega
      exact h))
    clear hc
    generalize (P.getD i []).length = rl at c1 HS
    by_cases hr:60 < rl
    ·
     have hr':(60:Int) < (rl:Int):=by omega
     go_wp2_with fail
     go_ret
     exact ⟨rfl,true,rfl,fun h => by cases h⟩
    ·
     have hr':¬ (60:Int) < (rl:Int):=by omega
     go_wp2_with fail
     go_roundw
     case rel => exact ⟨i + 1,by omega,by omega,by go_num,by first | rfl | trivial,HS.out (by omega)⟩
     case measure => show n - ((i:Int) + 1).toNat < n - (i:Int).toNat; omega
  ·
   have hii:¬ (i:Int) < (n:Int):=by omega
   go_wp2_with fail
   go_ret
   refine ⟨rfl,false,rfl,fun _ => ⟨by omega,fun l hl => ?_⟩⟩
   obtain ⟨j,hj,rfl⟩:=List.getElem_of_mem hl
   have:=H.out j (by have:=HL.out.2; omega)
   rw [List.getD_eq_getElem?_getD,List.getElem?_eq_getElem hj] at this
   exact this
def cntP (P:List (List Int)) (i:Nat):Nat:=((P.take i).map List.length).sum
theorem cntP_step {P:List (List Int)} {i:Nat} (h:i < P.length):cntP P (i + 1) = cntP P i + (P.getD i []).length:=by
 unfold cntP
 rw [List.take_succ_eq_append_getElem h,List.map_append,List.sum_append,List.getD_eq_getElem?_getD,List.getElem?_eq_getElem h]
 simp
theorem cntP_pos {P:List (List Int)} {i:Nat} (h:i < P.length) (hp:0 < (P.getD i []).length):0 < cntP P P.length:=by
 have key:∀ k,i < k→k≤P.length→0 < cntP P k:=by
  intro k
  induction k with
  | zero => intro h; omega
  | succ k ih =>
   intro h1 h2
   rw [cntP_step (by omega)]
   by_cases e:i < k
   ·
    have:=ih e (by omega); omega
   ·
    obtain rfl:i = k:=by omega
    omega
 exact key _ h (Nat.le_refl _)
theorem mP_true {P:List (List Int)} {i:Nat} {x:Nat}:mP P i x = true ↔ (x:Int) ∈ P.getD i []:=by
 unfold mP
 rw [decide_eq_true_eq]
theorem cost_in {P:List (List Int)} (hok:okP P = true) {i k:Nat} (hi:i < P.length) (hk:k < P.length) (h:mP P i k = true):costS P (i:Int) (k:Int) = (cost P.length (mP P) i k,0):=by
 unfold costS
 rw [if_pos hok,if_pos]
 ·
  rfl
 ·
  unfold hasM
  rw [decide_eq_true (by omega),decide_eq_true (by omega),decide_eq_true (by omega),decide_eq_true (by omega)]
  exact h
end Sp
end Go.Proofs.Ytlciijlgiknljaa

namespace Go.Proofs.Ytlciijlgiknljaa
open Go.RowKit
namespace Sp
theorem cnt_none {P:List (List Int)} (hok:okP P = true) (h:bestOf P.length (mP P) = none):cntP P P.length = 0:=by
 have hb:=best_none.1 h
 have key:∀ k,k≤P.length→cntP P k = 0:=by
  intro k
  induction k with
  | zero => intro _; rfl
  | succ k ih =>
   intro hk
   rw [cntP_step (by omega),ih (by omega)]
   cases hl:P.getD k [] with
   | nil => rfl
   | cons x t =>
    have hm:x ∈ P.getD k []:=by rw [hl]; exact List.mem_cons_self ..
    have h1:=okP_mem hok (show k < P.length by omega) x hm
    obtain ⟨y,rfl⟩:=Int.eq_ofNat_of_zero_le h1.1
    have h2:=hb k y (by omega) (by omega)
    rw [mP_true.2 hm] at h2
    cases h2
 exact key _ (Nat.le_refl _)
theorem cnt_some {P:List (List Int)} {q:Nat × Nat} (h:bestOf P.length (mP P) = some q):0 < cntP P P.length:=by
 have hq:=best_some.1 (show bestOf P.length (mP P) = some (q.1,q.2) from h)
 exact cntP_pos hq.row (List.length_pos_of_mem (mP_true.1 hq.isin))
set_option maxRecDepth 100000 in
set_option maxHeartbeats 8000000 in
theorem best13_any (ao:Option Addr) (n c:Nat) (P:List (List Int)) (w:World) (h:PatR w (.slice ao n c) P) :
  Calls Try.prog 8 #[.slice ao n c] w fun e w' => Kept w w'∧e = .returned (.bool true):=by
 have HN:=hid h.len
 have HL:=hid h
 clear h
 go_enter Try.func8,Try.ntmps8
 go_wp2_with fail
 refine (awake13_any _).mono ?_
 rintro e w1 ⟨hk,rfl⟩
 have HK:=hid hk
 clear hk
 go_wp2_with fail
 refine (wide_any ao n c P _ (HL.out.kept HK.out)).mono ?_
 rintro e w2 ⟨rfl,b,rfl,hb⟩
 cases b with
 | true =>
  go_wp2_with fail
  go_ret
  exact ⟨HK.out,rfl⟩
 | false =>
  obtain ⟨hn,hr⟩:=hb rfl
  have HR:=hid hr
  have HR6:=hid (fun l hl => Nat.le_trans (hr l hl) (show 60≤1000000 by omega))
  clear hb hr
  go_wp2_with fail
  refine (rcheck_any ao n c P _ (HL.out.kept HK.out) (by omega) HR6.out).mono ?_
  rintro e w3 ⟨hk,rfl⟩
  have HK:=hid (HK.out.trans hk)
  clear hk
  cases hok:okP P with
  | false =>
   have hc:chkP P = 130:=by unfold chkP; rw [if_neg (by rw [hok]; decide)]
   rw [hc]
   clear hc hok
   go_wp2_with fail
   go_ret
   exact ⟨HK.out,rfl⟩
  | true =>
   have hc:chkP P = 0:=by unfold chkP; rw [if_pos hok]
   have HB:=hid (show bestS P = bestOf n (mP P) by unfold bestS; rw [if_pos hok,HN.out])
   rw [hc]
   have HOK:=hid hok
   clear hok
   go_wp2_with fail
   refine (sp_best ao n c P _ (HL.out.kept HK.out) (by omega) HR6.out).mono ?_
   rintro e w4 ⟨hk,rfl⟩
   have HK:=hid (HK.out.trans hk)
   rw [hc,HB.out]
   clear hk hc
   cases ho:bestOf n (mP P) with
   | none =>
    have HTOT:=hid (show cntP P n = 0 by rw [HN.out]; exact cnt_none HOK.out (by rw [← HN.out]; exact ho))
    have HNO:=hid (best_none.1 ho)
    rw [show rO none = 0 from rfl,show cO none = 0 from rfl]
    clear ho
    go_wp2_with fail
    refine (sp_cost ao n c P ((0:Nat):Int) ((0:Nat):Int) _ (HL.out.kept HK.out) (by omega) HR6.out).mono ?_
    rintro e w5 ⟨hk,rfl⟩
    have HK:=hid (HK.out.trans hk)
    clear hk
    generalize (costS P ((0:Nat):Int) ((0:Nat):Int)).1 = x0
    generalize (costS P ((0:Nat):Int) ((0:Nat):Int)).2 = y0
    --%N
    go_wp2_with fail
    --%L
    go_loopw [9,45] (fun v9 v45 wr => ∃ (i t:Nat),i≤n∧t≤i * 60∧v9 = .int .i64 (t:Int)∧v45 = .int .i64 (i:Int)∧Hid (Kept w wr∧t = cntP P i)) (fun _ v45 _ => n - (intOf v45).toNat)
    case atStart => exact ⟨0,0,Nat.zero_le _,Nat.zero_le _,rfl,rfl,HK.out,rfl⟩
    case round =>
     clear HK
     obtain ⟨i,t,hil,htb,rfl,rfl,H⟩:=hrel
     generalize wr = w4 at H ⊢
     by_cases hit:i < n
     ·
      have hii:(i:Int) < (n:Int):=by omega
      have hi0:(0:Int)≤(i:Int):=by omega
      have hiL:i < P.length:=by have:=HN.out; omega
      obtain ⟨b,off,rfl,ra,rcp,hc,hI⟩:=HL.out.row hiL
      have c1:=hc _ H.out.1
      have hlen:(P.getD i []).length≤60:=HR.out _ (by rw [List.getD_eq_getElem?_getD,List.getElem?_eq_getElem hiL]; exact List.getElem_mem hiL)
      have HM:=hid (fun x hx => okP_mem HOK.out hiL x hx)
      have HS:=hid (cntP_step hiL)
      have HMP:=hid (fun (y:Nat) (hy:(y:Int) ∈ P.getD i []) => (mP_true (P:=P)).2 hy)
      generalize P.getD i [] = row at c1 hI hlen HM HS HMP
      obtain ⟨rl,hrl⟩:∃ r,r = row.length:=⟨_,rfl⟩
      rw [← hrl] at c1 hI hlen HS
      have HI:=hid (And.intro hI hrl)
      clear hc hI hrl
      go_wp2_with fail
      --%M
      go_loopw [9,52] (fun v9 v52 wr => ∃ (k s:Nat),k≤rl∧s≤i * 60 + k∧v9 = .int .i64 (s:Int)∧v52 = .int .i64 (k:Int)∧Hid (Kept w wr∧s = t + k)) (fun _ v52 _ => rl - (intOf v52).toNat)
      case atStart => exact ⟨0,t,Nat.zero_le _,by omega,rfl,rfl,H.out.1,rfl⟩
      case round =>
       obtain ⟨k,s,hkl,hsb,rfl,rfl,K⟩:=hrel
       by_cases hkt:k < rl
       ·
        have hkk:(k:Int) < (rl:Int):=by omega
        have hk0:(0:Int)≤(k:Int):=by omega
        have hkL:k < row.length:=by have:=HI.out.2; omega
        obtain ⟨b2,o2,rfl,hd⟩:=HI.out.1.at hkL
        have c2:=hd _ K.out.1
        have hmem:row.getD k 0 ∈ row:=by rw [List.getD_eq_getElem?_getD,List.getElem?_eq_getElem hkL]; exact List.getElem_mem hkL
        have hm:=HM.out _ hmem
        obtain ⟨y,hy⟩:=Int.eq_ofNat_of_zero_le hm.1
        rw [hy] at c2 hmem hm
        have hyn:y < P.length:=by omega
        have hmp:=HMP.out y hmem
        have h9:=HNO.out i y hit (by have:=HN.out; omega)
        rw [hmp] at h9
        cases h9
       ·
        have hkk:¬ (k:Int) < (rl:Int):=by omega
        have HE:=hid (show s = cntP P (i + 1) by rw [HS.out,← H.out.2]; have:=K.out.2; omega)
        go_wp2_with fail
        go_roundw
        case rel => exact ⟨i + 1,s,by omega,by omega,rfl,by go_num,K.out.1,HE.out⟩
        case measure => show n - ((i:Int) + 1).toNat < n - (i:Int).toNat; omega
     ·
      have hii:¬ (i:Int) < (n:Int):=by omega
      obtain rfl:n = i:=by omega
      have ht:¬ (0:Int) < (t:Int):=by have h1:=H.out.2; have h2:=HTOT.out; omega
      have ht2:¬ 0 < t:=by omega
      go_wp2_with fail
      go_ret
      exact ⟨H.out.1,rfl⟩
   | some q =>
    obtain ⟨qr,qc⟩:=q
    have hq:=best_some.1 ho
    have HTOT:=hid (show 0 < cntP P n by rw [HN.out]; exact cnt_some (by rw [← HN.out]; exact ho))
    have HBF:=hid (fun (i y:Nat) (hi:i < n) (hy:y < n) (hm:mP P i y = true) => hq.least i y hi hy hm)
    have HCO:=hid (show costS P (qr:Int) (qc:Int) = (cost n (mP P) qr qc,0) by rw [cost_in HOK.out (by rw [← HN.out]; exact hq.row) (by rw [← HN.out]; exact hq.col) hq.isin,HN.out])
    rw [show rO (some (qr,qc)) = qr from rfl,show cO (some (qr,qc)) = qc from rfl]
    clear ho hq
    go_wp2_with fail
    refine (sp_cost ao n c P (qr:Int) (qc:Int) _ (HL.out.kept HK.out) (by omega) HR6.out).mono ?_
    rintro e w5 ⟨hk,rfl⟩
    have HK:=hid (HK.out.trans hk)
    rw [HCO.out]
    clear hk HCO
    generalize cost n (mP P) qr qc = z at HBF ⊢
    --%S
    go_wp2_with fail
    --%L
    go_loopw [9,45] (fun v9 v45 wr => ∃ (i t:Nat),i≤n∧t≤i * 60∧v9 = .int .i64 (t:Int)∧v45 = .int .i64 (i:Int)∧Hid (Kept w wr∧t = cntP P i)) (fun _ v45 _ => n - (intOf v45).toNat)
    case atStart => exact ⟨0,0,Nat.zero_le _,Nat.zero_le _,rfl,rfl,HK.out,rfl⟩
    case round =>
     clear HK
     obtain ⟨i,t,hil,htb,rfl,rfl,H⟩:=hrel
     generalize wr = w4 at H ⊢
     by_cases hit:i < n
     ·
      have hii:(i:Int) < (n:Int):=by omega
      have hi0:(0:Int)≤(i:Int):=by omega
      have hiL:i < P.length:=by have:=HN.out; omega
      obtain ⟨b,off,rfl,ra,rcp,hc,hI⟩:=HL.out.row hiL
      have c1:=hc _ H.out.1
      have hlen:(P.getD i []).length≤60:=HR.out _ (by rw [List.getD_eq_getElem?_getD,List.getElem?_eq_getElem hiL]; exact List.getElem_mem hiL)
      have HM:=hid (fun x hx => okP_mem HOK.out hiL x hx)
      have HS:=hid (cntP_step hiL)
      have HMP:=hid (fun (y:Nat) (hy:(y:Int) ∈ P.getD i []) => (mP_true (P:=P)).2 hy)
      generalize P.getD i [] = row at c1 hI hlen HM HS HMP
      obtain ⟨rl,hrl⟩:∃ r,r = row.length:=⟨_,rfl⟩
      rw [← hrl] at c1 hI hlen HS
      have HI:=hid (And.intro hI hrl)
      clear hc hI hrl
      go_wp2_with fail
      --%M
      go_loopw [9,52] (fun v9 v52 wr => ∃ (k s:Nat),k≤rl∧s≤i * 60 + k∧v9 = .int .i64 (s:Int)∧v52 = .int .i64 (k:Int)∧Hid (Kept w wr∧s = t + k)) (fun _ v52 _ => rl - (intOf v52).toNat)
      case atStart => exact ⟨0,t,Nat.zero_le _,by omega,rfl,rfl,H.out.1,rfl⟩
      case round =>
       obtain ⟨k,s,hkl,hsb,rfl,rfl,K⟩:=hrel
       by_cases hkt:k < rl
       ·
        have hkk:(k:Int) < (rl:Int):=by omega
        have hk0:(0:Int)≤(k:Int):=by omega
        have hkL:k < row.length:=by have:=HI.out.2; omega
        obtain ⟨b2,o2,rfl,hd⟩:=HI.out.1.at hkL
        have c2:=hd _ K.out.1
        have hmem:row.getD k 0 ∈ row:=by rw [List.getD_eq_getElem?_getD,List.getElem?_eq_getElem hkL]; exact List.getElem_mem hkL
        have hm:=HM.out _ hmem
        obtain ⟨y,hy⟩:=Int.eq_ofNat_of_zero_le hm.1
        rw [hy] at c2 hmem hm
        have hyn:y < P.length:=by omega
        have hmp:=HMP.out y hmem
        have HCO:=hid (cost_in HOK.out hiL hyn hmp)
        have HBB:=HBF.out i y hit (by have:=HN.out; omega) hmp
        clear hd hmem hm hy hmp
        go_wp2_with fail
        refine (sp_cost _ n c P (i:Int) (y:Int) _ (HL.out.kept K.out.1) (by omega) HR6.out).mono ?_
        rintro e w5 ⟨hk,rfl⟩
        rw [HCO.out]
        have HK5:=hid (And.intro (K.out.1.trans hk) K.out.2)
        clear hk K HCO
        rw [← HN.out]
        generalize cost n (mP P) i y = x at HBB
        --%X
        by_cases hxz:z = x
        ·
         subst hxz
         have h1:¬ (i:Int) < (qr:Int):=by omega
         by_cases h2:i = qr
         ·
          subst h2
          have h3:¬ (y:Int) < (qc:Int):=by omega
          clear HBB
          go_wp2_with fail
          go_roundw
          case rel => exact ⟨k + 1,s + 1,by omega,by omega,by go_num,by go_num,HK5.out.1,by have:=HK5.out.2; omega⟩
          case measure => show rl - ((k:Int) + 1).toNat < rl - (k:Int).toNat; omega
         ·
          have h2':((i:Int) == (qr:Int)) = false:=by simp; omega
          clear HBB h2
          go_wp2_with fail
          go_roundw
          case rel => exact ⟨k + 1,s + 1,by omega,by omega,by go_num,by go_num,HK5.out.1,by have:=HK5.out.2; omega⟩
          case measure => show rl - ((k:Int) + 1).toNat < rl - (k:Int).toNat; omega
        ·
         have h1:¬ x < z:=by omega
         have h2':(x == z) = false:=by simp; omega
         clear HBB hxz
         go_wp2_with fail
         go_roundw
         case rel => exact ⟨k + 1,s + 1,by omega,by omega,by go_num,by go_num,HK5.out.1,by have:=HK5.out.2; omega⟩
         case measure => show rl - ((k:Int) + 1).toNat < rl - (k:Int).toNat; omega
       ·
        have hkk:¬ (k:Int) < (rl:Int):=by omega
        have HE:=hid (show s = cntP P (i + 1) by rw [HS.out,← H.out.2]; have:=K.out.2; omega)
        go_wp2_with fail
        go_roundw
        case rel => exact ⟨i + 1,s,by omega,by omega,rfl,by go_num,K.out.1,HE.out⟩
        case measure => show n - ((i:Int) + 1).toNat < n - (i:Int).toNat; omega
     ·
      have hii:¬ (i:Int) < (n:Int):=by omega
      obtain rfl:n = i:=by omega
      have ht:(0:Int) < (t:Int):=by have h1:=H.out.2; have h2:=HTOT.out; omega
      have ht2:0 < t:=by omega
      go_wp2_with fail
      go_ret
      exact ⟨H.out.1,rfl⟩
end Sp
end Go.Proofs.Ytlciijlgiknljaa

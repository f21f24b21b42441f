/- Lemmas. -/
import Derived.Test.YtdjhmgmjiglcbaaGreatDoorGbh
import Derived.Test.YtdjhmgmjiglcbaaGreatDoorGbg
set_option maxRecDepth 100000
set_option maxHeartbeats 16000000
namespace Go.Proofs.YtdjhmgmjiglcbaaGreatDoor
open Go.RowKit
namespace V
open Q (hid' Lett ErrV Tab)
open X (RS OwnS strs)
def chkF (fm fx fk:Int)(ns:List (List UInt8))(ds:List DE):Int :=
 if (fsetB fm fx fk&&(nodesB ns&&fdevsB ns.length fm fx fk ds))=false then 90 else if 48<unkN ns.length ds then 5 else 0
theorem chkF_bad {fm fx fk:Int}{ns:List (List UInt8)}{ds:List DE}(h:(fsetB fm fx fk&&(nodesB ns&&fdevsB ns.length fm fx fk ds))=false):chkF fm fx fk ns ds=90:=if_pos h
theorem nodes_len {ns:List (List UInt8)}(h:nodesB ns=true):ns.length<=1000000:=by
 unfold nodesB at h
 rw[Bool.and_eq_true,decide_eq_true_eq]at h
 omega
theorem fdevs_len {fn:Nat}{fm fx fk:Int}{ds:List DE}(h:fdevsB fn fm fx fk ds=true):ds.length<=1000000:=by
 unfold fdevsB at h
 rw[Bool.and_eq_true,decide_eq_true_eq]at h
 omega
theorem fcheck_any (fa:Option Addr)(fn fc:Nat)(da:Option Addr)(dn dc:Nat)(fm fx fk:Int)(ns:List (List UInt8))(ds:List DE)(w:World)(hns:RS w (.slice fa fn fc) ns)(hcap:fn<=fc)(hbig:fc<=9223372036854775807)(hs:∀x∈ns,x.length<=4611686018427387903)(h:DsR w (.slice da dn dc) ds)(hz:∀d∈ds,d.sz)(hL:Lett w)(hE:ErrV w)(hT:Tab w) :
  Calls Tryz.prog 31 #[.agg #[.slice fa fn fc,.slice da dn dc,.int .i64 fm,.int .i64 fx,.int .i64 fk]] w fun e w'=>Kept w w'/\e=.returned (.int .i64 (chkF fm fx fk ns ds)):=by
 have hn:dn=ds.length:=by have:=h.1.len;rw[List.length_map]at this;exact this
 have hf:fn=ns.length:=by obtain⟨_,_,e,_⟩:=hns;simp at e;exact e.2.1
 have HC:=hid' (show chkF fm fx fk ns ds=if (fsetB fm fx fk&&(nodesB ns&&fdevsB fn fm fx fk ds))=false then 90 else if 48<unkN fn ds then 5 else 0 by rw[hf];rfl)
 have HB1:=hid' (fun (e:nodesB ns=true)=>show fn<=1000000 by rw[hf];exact nodes_len e)
 have HB2:=hid' (fun (e:fdevsB fn fm fx fk ds=true)=>show dn<=1000000 by rw[hn];exact fdevs_len e)
 have HL:=hid' (And.intro h (And.intro hz (And.intro hns hs)))
 have HCP:=hid' (And.intro hcap hbig)
 have HLE:=hid' (And.intro hL (And.intro hE hT))
 clear h hn hf hz hns hs hcap hbig hL hE hT
 have kA:=(Kept.refl w).alloc (.cells #[.slice fa fn fc,.slice da dn dc,.int .i64 fm,.int .i64 fx,.int .i64 fk] 27)
 have hA:=RowL.alloc 27 w [.slice fa fn fc,.slice da dn dc,.int .i64 fm,.int .i64 fx,.int .i64 fk]
 go_enter Tryz.func31,Tryz.ntmps31
 go_upto_region 1 with fail
 generalize w.alloc (.cells #[.slice fa fn fc,.slice da dn dc,.int .i64 fm,.int .i64 fx,.int .i64 fk] 27)=W at kA hA ⊢
 obtain⟨p,hp⟩:∃q,q=w.heap.size:=⟨_,rfl⟩
 rw[<-hp]at hA ⊢
 have HF:=hid' hA
 have HK:=hid' kA
 clear kA hA hp
 have f0:=HF.out.cell 0 (.slice fa fn fc)
 have f1:=HF.out.cell 1 (.slice da dn dc)
 have f2:=HF.out.cell 2 (.int .i64 fm)
 have f3:=HF.out.cell 3 (.int .i64 fx)
 have f4:=HF.out.cell 4 (.int .i64 fk)
 go_wp2_with fail
 refine(fset_any fa fn fc da dn dc fm fx fk _ (HLE.out.1.kept HK.out) (HLE.out.2.1.kept HK.out) (HLE.out.2.2.kept HK.out)).mono ?_
 rintro e w1 ⟨hk,rfl⟩
 have HF:=hid' (HF.out.kept hk)
 have HK:=hid' (HK.out.trans hk)
 clear hk f0 f1 f2 f3 f4
 have f0:=HF.out.cell 0 (.slice fa fn fc)
 have f1:=HF.out.cell 1 (.slice da dn dc)
 have f2:=HF.out.cell 2 (.int .i64 fm)
 have f3:=HF.out.cell 3 (.int .i64 fx)
 have f4:=HF.out.cell 4 (.int .i64 fk)
 cases hb1:fsetB fm fx fk with
 |false=>
  have HR:=hid' (show chkF fm fx fk ns ds=90 by rw[HC.out,hb1];rfl)
  clear hb1
  go_wp2_with fail
  go_ret
  exact⟨HK.out,by rw[HR.out];rfl⟩
 |true=>
 have HC:=hid' (show chkF fm fx fk ns ds=if (nodesB ns&&fdevsB fn fm fx fk ds)=false then 90 else if 48<unkN fn ds then 5 else 0 by rw[HC.out,hb1,Bool.true_and])
 clear hb1
 go_wp2_with fail
 refine(rightNodes_any fa fn fc ns _ (HL.out.2.2.1.kept HK.out) HCP.out.1 HCP.out.2 HL.out.2.2.2).mono ?_
 rintro e w2 ⟨hk,rfl⟩
 have HF:=hid' (HF.out.kept hk)
 have HK:=hid' (HK.out.trans hk)
 clear hk f0 f1 f2 f3 f4
 have f0:=HF.out.cell 0 (.slice fa fn fc)
 have f1:=HF.out.cell 1 (.slice da dn dc)
 have f2:=HF.out.cell 2 (.int .i64 fm)
 have f3:=HF.out.cell 3 (.int .i64 fx)
 have f4:=HF.out.cell 4 (.int .i64 fk)
 cases hb2:nodesB ns with
 |false=>
  have HR:=hid' (show chkF fm fx fk ns ds=90 by rw[HC.out,hb2];rfl)
  clear hb2
  go_wp2_with fail
  go_ret
  exact⟨HK.out,by rw[HR.out];rfl⟩
 |true=>
 have HC:=hid' (show chkF fm fx fk ns ds=if fdevsB fn fm fx fk ds=false then 90 else if 48<unkN fn ds then 5 else 0 by rw[HC.out,hb2,Bool.true_and])
 have HB1:=hid' (HB1.out hb2)
 clear hb2
 go_wp2_with fail
 refine(rightDevs_any fa fn fc da dn dc fm fx fk ds _ (HL.out.1.kept HK.out) HL.out.2.1 (HLE.out.1.kept HK.out) (HLE.out.2.1.kept HK.out) (HLE.out.2.2.kept HK.out)).mono ?_
 rintro e w3 ⟨hk,rfl⟩
 have HF:=hid' (HF.out.kept hk)
 have HK:=hid' (HK.out.trans hk)
 clear hk f0 f1 f2 f3 f4
 have f0:=HF.out.cell 0 (.slice fa fn fc)
 have f1:=HF.out.cell 1 (.slice da dn dc)
 have f2:=HF.out.cell 2 (.int .i64 fm)
 have f3:=HF.out.cell 3 (.int .i64 fx)
 have f4:=HF.out.cell 4 (.int .i64 fk)
 cases hb3:fdevsB fn fm fx fk ds with
 |false=>
  have HR:=hid' (show chkF fm fx fk ns ds=90 by rw[HC.out,hb3];rfl)
  clear hb3
  go_wp2_with fail
  go_ret
  exact⟨HK.out,by rw[HR.out];rfl⟩
 |true=>
 have HC:=hid' (show chkF fm fx fk ns ds=if 48<unkN fn ds then 5 else 0 by rw[HC.out,hb3];rfl)
 have HB2:=hid' (HB2.out hb3)
 clear hb3
 go_wp2_with fail
 refine(unknowns_any fa fn fc da dn dc fm fx fk ds _ (HL.out.1.kept HK.out) HB2.out HB1.out).mono ?_
 rintro e w4 ⟨hk,u,rfl,_⟩
 have HF:=hid' (HF.out.kept hk)
 have HK:=hid' (HK.out.trans hk)
 clear hk f0 f1 f2 f3 f4
 have f0:=HF.out.cell 0 (.slice fa fn fc)
 have f1:=HF.out.cell 1 (.slice da dn dc)
 have f2:=HF.out.cell 2 (.int .i64 fm)
 have f3:=HF.out.cell 3 (.int .i64 fx)
 have f4:=HF.out.cell 4 (.int .i64 fk)
 generalize unkN fn ds=z at HC ⊢
 by_cases h48:48<z
 ·have HR:=hid' (show chkF fm fx fk ns ds=5 by rw[HC.out,if_pos h48])
  go_wp2_with fail
  go_ret
  exact⟨HK.out,by rw[HR.out];rfl⟩
 ·have HR:=hid' (show chkF fm fx fk ns ds=0 by rw[HC.out,if_neg h48])
  go_wp2_with fail
  go_ret
  exact⟨HK.out,by rw[HR.out];rfl⟩
open Q (hid' Lett ErrV Tab)
open X (RS OwnS strs)
def tieAB (k mo:Int):Bool:=if k∈([114,108,118,101,104,116,100,115]:List Int) then true else if k=99 then decide (mo=2) else false
def tieCD (k:Int):Bool:=decide (k∈([101,103,116]:List Int))
def holdAB (k mo:Int):Bool:=if k∈([118]:List Int) then true else if k=108 then decide (mo=1) else false
theorem tieAB_any (k mo:Int)(w:World):Calls Tryz.prog 33 #[.int .u8 k,.int .i64 mo] w fun e w'=>e=.returned (.bool (tieAB k mo))/\w'=w:=by
 by_cases h0:k=114
 ·subst h0
  go_enter Tryz.func33,Tryz.ntmps33
  go_wp2_with fail
  go_ret
  exact⟨rfl,rfl⟩
 have b0:(k == 114)=false:=by simpa using h0
 by_cases h1:k=108
 ·subst h1
  go_enter Tryz.func33,Tryz.ntmps33
  go_wp2_with fail
  go_ret
  exact⟨rfl,rfl⟩
 have b1:(k == 108)=false:=by simpa using h1
 by_cases h2:k=118
 ·subst h2
  go_enter Tryz.func33,Tryz.ntmps33
  go_wp2_with fail
  go_ret
  exact⟨rfl,rfl⟩
 have b2:(k == 118)=false:=by simpa using h2
 by_cases h3:k=101
 ·subst h3
  go_enter Tryz.func33,Tryz.ntmps33
  go_wp2_with fail
  go_ret
  exact⟨rfl,rfl⟩
 have b3:(k == 101)=false:=by simpa using h3
 by_cases h4:k=104
 ·subst h4
  go_enter Tryz.func33,Tryz.ntmps33
  go_wp2_with fail
  go_ret
  exact⟨rfl,rfl⟩
 have b4:(k == 104)=false:=by simpa using h4
 by_cases h5:k=116
 ·subst h5
  go_enter Tryz.func33,Tryz.ntmps33
  go_wp2_with fail
  go_ret
  exact⟨rfl,rfl⟩
 have b5:(k == 116)=false:=by simpa using h5
 by_cases h6:k=100
 ·subst h6
  go_enter Tryz.func33,Tryz.ntmps33
  go_wp2_with fail
  go_ret
  exact⟨rfl,rfl⟩
 have b6:(k == 100)=false:=by simpa using h6
 by_cases h7:k=115
 ·subst h7
  go_enter Tryz.func33,Tryz.ntmps33
  go_wp2_with fail
  go_ret
  exact⟨rfl,rfl⟩
 have b7:(k == 115)=false:=by simpa using h7
 by_cases h8:k=99
 ·subst h8
  have e:tieAB 99 mo=decide (mo=2):=rfl
  rw[e]
  clear e
  by_cases hm:mo=2
  ·subst hm
   go_enter Tryz.func33,Tryz.ntmps33
   go_wp2_with fail
   go_ret
   exact⟨rfl,rfl⟩
  ·have bm:(mo == 2)=false:=by simpa using hm
   rw[decide_eq_false hm]
   go_enter Tryz.func33,Tryz.ntmps33
   go_wp2_with fail
   go_ret
   exact⟨rfl,rfl⟩
 have b8:(k == 99)=false:=by simpa using h8
 have e:tieAB k mo=false:=by
  unfold tieAB
  rw[if_neg (by simp only[List.mem_cons,List.not_mem_nil,or_false];omega),if_neg h8]
 rw[e]
 clear e
 go_enter Tryz.func33,Tryz.ntmps33
 go_wp2_with fail
 go_ret
 exact⟨rfl,rfl⟩
theorem tieCD_any (k:Int)(w:World):Calls Tryz.prog 35 #[.int .u8 k] w fun e w'=>e=.returned (.bool (tieCD k))/\w'=w:=by
 by_cases h0:k=101
 ·subst h0
  go_enter Tryz.func35,Tryz.ntmps35
  go_wp2_with fail
  go_ret
  exact⟨rfl,rfl⟩
 have b0:(k == 101)=false:=by simpa using h0
 by_cases h1:k=103
 ·subst h1
  go_enter Tryz.func35,Tryz.ntmps35
  go_wp2_with fail
  go_ret
  exact⟨rfl,rfl⟩
 have b1:(k == 103)=false:=by simpa using h1
 by_cases h2:k=116
 ·subst h2
  go_enter Tryz.func35,Tryz.ntmps35
  go_wp2_with fail
  go_ret
  exact⟨rfl,rfl⟩
 have b2:(k == 116)=false:=by simpa using h2
 have e:tieCD k=false:=by
  unfold tieCD
  exact decide_eq_false (by simp only[List.mem_cons,List.not_mem_nil,or_false];omega)
 rw[e]
 clear e
 go_enter Tryz.func35,Tryz.ntmps35
 go_wp2_with fail
 go_ret
 exact⟨rfl,rfl⟩
theorem holdAB_any (k mo:Int)(w:World):Calls Tryz.prog 37 #[.int .u8 k,.int .i64 mo] w fun e w'=>e=.returned (.bool (holdAB k mo))/\w'=w:=by
 by_cases h0:k=118
 ·subst h0
  go_enter Tryz.func37,Tryz.ntmps37
  go_wp2_with fail
  go_ret
  exact⟨rfl,rfl⟩
 have b0:(k == 118)=false:=by simpa using h0
 by_cases h1:k=108
 ·subst h1
  have e:holdAB 108 mo=decide (mo=1):=rfl
  rw[e]
  clear e
  by_cases hm:mo=1
  ·subst hm
   go_enter Tryz.func37,Tryz.ntmps37
   go_wp2_with fail
   go_ret
   exact⟨rfl,rfl⟩
  ·have bm:(mo == 1)=false:=by simpa using hm
   rw[decide_eq_false hm]
   go_enter Tryz.func37,Tryz.ntmps37
   go_wp2_with fail
   go_ret
   exact⟨rfl,rfl⟩
 have b1:(k == 108)=false:=by simpa using h1
 have e:holdAB k mo=false:=by
  unfold holdAB
  rw[if_neg (by simp only[List.mem_cons,List.not_mem_nil,or_false];omega),if_neg h1]
 rw[e]
 clear e
 go_enter Tryz.func37,Tryz.ntmps37
 go_wp2_with fail
 go_ret
 exact⟨rfl,rfl⟩
def refT (fm fx fk:Int)(ns:List (List UInt8))(ds:List DE)(mo:Int):Int :=
 if chkF fm fx fk ns ds=0 then (if mo=1∨mo=2 then 0 else 110) else chkF fm fx fk ns ds
theorem refused_any (fa:Option Addr)(fn fc:Nat)(da:Option Addr)(dn dc:Nat)(fm fx fk:Int)(mo:Int)(ns:List (List UInt8))(ds:List DE)(w:World)(hns:RS w (.slice fa fn fc) ns)(hcap:fn<=fc)(hbig:fc<=9223372036854775807)(hs:∀x∈ns,x.length<=4611686018427387903)(h:DsR w (.slice da dn dc) ds)(hz:∀d∈ds,d.sz)(hL:Lett w)(hE:ErrV w)(hT:Tab w) :
  Calls Tryz.prog 18 #[.agg #[.slice fa fn fc,.slice da dn dc,.int .i64 fm,.int .i64 fx,.int .i64 fk],.int .i64 mo] w fun e w'=>Kept w w'/\e=.returned (.int .i64 (refT fm fx fk ns ds mo)):=by
 have kA:=(Kept.refl w).alloc (.cells #[.slice fa fn fc,.slice da dn dc,.int .i64 fm,.int .i64 fx,.int .i64 fk] 27)
 have HC:=hid' (fcheck_any fa fn fc da dn dc fm fx fk ns ds _ (hns.kept kA) hcap hbig hs (h.kept kA) hz (hL.kept kA) (hE.kept kA) (hT.kept kA))
 have HR:=hid' (show refT fm fx fk ns ds mo=if chkF fm fx fk ns ds=0 then (if mo=1∨mo=2 then 0 else 110) else chkF fm fx fk ns ds from rfl)
 have HK:=hid' kA
 clear hns hcap hbig hs h hz hL hE hT kA
 go_enter Tryz.func18,Tryz.ntmps18
 go_wp2_with fail
 refine HC.out.mono ?_
 rintro e w1 ⟨hk,rfl⟩
 have HK:=hid' (HK.out.trans hk)
 clear hk HC
 generalize chkF fm fx fk ns ds=z at HR ⊢
 by_cases h0:z=0
 ·subst h0
  have HR2:=hid' (show refT fm fx fk ns ds mo=if mo=1∨mo=2 then 0 else 110 by rw[HR.out,if_pos rfl])
  clear HR
  by_cases h1:mo=1
  ·subst h1
   go_wp2_with fail
   go_ret
   exact⟨HK.out,by rw[HR2.out];rfl⟩
  ·have b1:(mo != 1)=true:=by simpa using h1
   by_cases h2:mo=2
   ·subst h2
    go_wp2_with fail
    go_ret
    exact⟨HK.out,by rw[HR2.out];rfl⟩
   ·have b2:(mo != 2)=true:=by simpa using h2
    have HR3:=hid' (show refT fm fx fk ns ds mo=110 by rw[HR2.out,if_neg (by omega)])
    clear HR2
    go_wp2_with fail
    go_ret
    exact⟨HK.out,by rw[HR3.out];rfl⟩
 ·have b0:(z != 0)=true:=by simpa using h0
  have HR2:=hid' (show refT fm fx fk ns ds mo=z by rw[HR.out,if_neg h0])
  clear HR
  go_wp2_with fail
  go_ret
  exact⟨HK.out,by rw[HR2.out];rfl⟩
open Q (hid' Lett ErrV Tab)
open X (RS OwnS strs)
def rowG (i n:Nat):List Value:=(List.range i).map (fun (j:Nat)=>Value.int .i64 (j:Int))++List.replicate (n-i) (.int .i64 0)
theorem rowG_at {i n:Nat}(h:i<n):(rowG i n)[i]?=some (.int .i64 0):=by
 unfold rowG
 rw[List.getElem?_append_right (by simp),List.length_map,List.length_range,Nat.sub_self,List.getElem?_replicate,if_pos (by omega)]
theorem rowG_set {i n:Nat}(h:i<n):(rowG i n).set i (.int .i64 (i:Int))=rowG (i+1) n:=by
 unfold rowG
 obtain⟨m,hm⟩:∃m,n-i=m+1:=⟨n-i-1,by omega⟩
 rw[show n-(i+1)=m by omega,hm,List.set_append_right _ _ (by simp),List.length_map,List.length_range,Nat.sub_self,List.replicate_succ,List.set_cons_zero,List.range_succ,List.map_append]
 simp
theorem rowG_full (n:Nat):rowG n n=(List.range n).map (fun (j:Nat)=>Value.int .i64 (j:Int)):=by
 unfold rowG
 rw[Nat.sub_self]
 simp
theorem made_ints (n:Nat):madeCells (Value.int .i64 0).cells (n*1)=(rowG 0 n).toArray:=by
 apply Array.ext
 ·simp[madeCells,rowG]
 ·intro i h1 h2
  simp[madeCells,rowG,Value.cells]
  rw[Nat.mod_one]
  rfl
theorem und_groups:Tryz.prog.underlying 67=some (.slice 3):=by kernel_rfl
theorem talone_any (n:Nat)(w:World)(hb:n<=1000000) :
  Calls Tryz.prog 32 #[.int .i64 (n:Int)] w fun e w'=>Kept w w'/\∃g,e=.returned (.slice (some ⟨g,0,none⟩) n n)/\RowL 3 w' g ((List.range n).map fun (j:Nat)=>Value.int .i64 (j:Int))/\w.heap.size<=g:=by
 obtain⟨i0,hi,hz0,hz1,hz2⟩:=info_parts info_i64
 have hmk:∀u:World,(Instr.makeSlice 67 (.int .i64 (n:Int)) (.int .i64 (n:Int))).run Tryz.prog u=.ok (.slice (some ⟨u.heap.size,0,none⟩) n n) (u.alloc (.cells (rowG 0 n).toArray 3)):=fun u=>by
  have h:=run_make (P:=Tryz.prog) u 67 3 i0 (.int .i64 0) und_groups hi hz0 .i64 .i64 (n:Int) (n:Int) (by omega) (Int.le_refl _) (by rw[hz2];omega) (by omega)
  rw[Int.toNat_natCast,hz1,made_ints]at h
  exact h
 have kA:=(Kept.refl w).alloc (.cells (rowG 0 n).toArray 3)
 have hA:=RowL.alloc 3 w (rowG 0 n)
 go_enter Tryz.func32,Tryz.ntmps32
 go_wp2_with fail
 generalize w.alloc (.cells (rowG 0 n).toArray 3)=W at kA hA ⊢
 obtain⟨g,hg⟩:∃q,q=w.heap.size:=⟨_,rfl⟩
 rw[<-hg]at hA ⊢
 have HI:=hid' (And.intro kA hA)
 have HG:=hid' (show w.heap.size<=g by rw[hg];exact Nat.le_refl _)
 clear kA hA hg hmk
 go_loopw [9] (fun v9 wr=>∃(i:Nat),i<=n/\v9=.int .i64 (i:Int)/\Hid (Kept w wr/\RowL 3 wr g (rowG i n))) (fun v9 _=>n-(intOf v9).toNat)
 case atStart=>exact⟨0,Nat.zero_le _,rfl,HI.out.1,HI.out.2⟩
 case round=>
  obtain⟨i,hil,rfl,H⟩:=hrel
  clear HI
  by_cases hit:i<n
  ·have hii:(i:Int)<(n:Int):=by omega
   have hi0:(0:Int)<=(i:Int):=by omega
   have c0:=H.out.2.cell i _ (rowG_at hit)
   have cz:=H.out.2.fz
   have HN:=hid' (And.intro (H.out.1.setCell (p:=⟨g,i,none⟩) HG.out (.int .i64 (i:Int))) (H.out.2.set i (.int .i64 (i:Int))))
   rw[rowG_set hit]at HN
   go_wp2_with fail
   go_roundw
   case rel=>exact⟨i+1,by omega,by go_num,HN.out⟩
   case measure=>show n-((i:Int)+1).toNat<n-(i:Int).toNat;omega
  ·have hii:¬(i:Int)<(n:Int):=by omega
   obtain rfl:i=n:=by omega
   have HN:=hid' H.out
   rw[rowG_full]at HN
   go_wp2_with fail
   go_ret
   exact⟨HN.out.1,g,rfl,HN.out.2,HG.out⟩
open Q (hid' Lett ErrV Tab)
open X (RS OwnS strs)
structure Gr (L:List Nat) (hd D:Nat->Nat):Prop where
 lt:∀x,x<L.length->hd x<L.length
 fix:∀x,x<L.length->L.getD (hd x) 0=hd x
 stop:∀x,x<L.length->L.getD x 0=x->hd x=x
 go:∀x,x<L.length->L.getD x 0≠x->L.getD x 0<L.length/\hd (L.getD x 0)=hd x/\D (L.getD x 0)<D x
def grow (L:List Nat):List Value:=L.map fun (j:Nat)=>Value.int .i64 (j:Int)
def joinH (hd:Nat->Nat)(a b:Nat):Nat->Nat:=fun x=>if hd x=hd b then hd a else hd x
theorem Gr.hh {L:List Nat}{hd D:Nat->Nat}(h:Gr L hd D){x:Nat}(hx:x<L.length):hd (hd x)=hd x:=h.stop _ (h.lt x hx) (h.fix x hx)
theorem getD_set (L:List Nat)(i x v:Nat)(hi:i<L.length):(L.set i v).getD x 0=if x=i then v else L.getD x 0:=by
 rw[List.getD_eq_getElem?_getD,List.getD_eq_getElem?_getD,List.getElem?_set]
 by_cases e:i=x
 ·subst e
  rw[if_pos rfl,if_pos hi,if_pos rfl]
  rfl
 ·rw[if_neg e,if_neg (fun h=>e h.symm)]
theorem Gr.join {L:List Nat}{hd D:Nat->Nat}(h:Gr L hd D){a b:Nat}(ha:a<L.length)(hb:b<L.length) :
  Gr (L.set (hd b) (hd a)) (joinH hd a b) (fun x=>if hd x=hd b then D x+D (hd a)+1 else D x):=by
 have hB:=h.lt b hb
 have hA:=h.lt a ha
 have hAA:=h.hh ha
 have hBB:=h.hh hb
 have hj:joinH hd a b (hd a)=hd a:=by
  unfold joinH
  rw[hAA]
  split <;> rfl
 refine⟨fun x hx=>?_,fun x hx=>?_,fun x hx hs=>?_,fun x hx hs=>?_⟩
 ·rw[List.length_set]at hx ⊢
  unfold joinH
  split
  ·exact hA
  ·exact h.lt x hx
 ·rw[List.length_set]at hx
  rw[getD_set _ _ _ _ hB]
  unfold joinH
  by_cases e:hd x=hd b
  ·rw[if_pos e]
   by_cases e2:hd a=hd b
   ·rw[if_pos e2]
   ·rw[if_neg e2,h.fix a ha]
  ·rw[if_neg e,if_neg e,h.fix x hx]
 ·rw[List.length_set]at hx
  rw[getD_set _ _ _ _ hB]at hs
  unfold joinH
  by_cases e:x=hd b
  ·rw[if_pos e]at hs
   rw[if_pos (by rw[e,hBB]),hs]
  ·rw[if_neg e]at hs
   have h1:=h.stop x hx hs
   rw[if_neg (by rw[h1];exact e),h1]
 ·rw[List.length_set]at hx ⊢
  rw[getD_set _ _ _ _ hB]at hs ⊢
  by_cases e:x=hd b
  ·rw[if_pos e]at hs ⊢
   have hne:hd a≠hd b:=fun h9=>hs (by rw[h9,e])
   refine⟨hA,?_,?_⟩
   ·rw[hj]
    unfold joinH
    rw[if_pos (by rw[e,hBB])]
   ·show (if hd (hd a)=hd b then _ else _)<(if hd x=hd b then _ else _)
    rw[hAA,if_neg hne,if_pos (by rw[e,hBB])]
    omega
  ·rw[if_neg e]at hs ⊢
   obtain⟨h1,h2,h3⟩:=h.go x hx hs
   refine⟨h1,?_,?_⟩
   ·unfold joinH
    rw[h2]
   ·show (if hd (L.getD x 0)=hd b then _ else _)<(if hd x=hd b then _ else _)
    rw[h2]
    split <;> omega
theorem Gr.alone (n:Nat):Gr (List.range n) (fun x=>x) (fun _=>0):=by
 have e:∀x,x<n->(List.range n).getD x 0=x:=fun x hx=>by rw[List.getD_eq_getElem?_getD,List.getElem?_range hx];rfl
 refine⟨fun x hx=>hx,fun x hx=>e x (by simpa using hx),fun x _ _=>rfl,fun x hx hs=>absurd (e x (by simpa using hx)) hs⟩
theorem grow_at {L:List Nat}{x:Nat}(h:x<L.length):(grow L)[x]?=some (.int .i64 ((L.getD x 0:Nat):Int)):=by
 unfold grow
 rw[List.getElem?_map,List.getD_eq_getElem?_getD,List.getElem?_eq_getElem h]
 rfl
theorem head_any (g n c x:Nat)(L:List Nat)(hd D:Nat->Nat)(w:World)(hG:Gr L hd D)(hn:n=L.length)(hx:x<n)(hr:RowL 3 w g (grow L)) :
  Calls Tryz.prog 49 #[.slice (some ⟨g,0,none⟩) n c,.int .i64 (x:Int)] w fun e w'=>e=.returned (.int .i64 ((hd x:Nat):Int))/\w'=w:=by
 have HG:=hid' hG
 have HN:=hid' hn
 have HR:=hid' hr
 clear hG hn hr
 obtain⟨z,hz⟩:∃z,z=hd x:=⟨_,rfl⟩
 rw[<-hz]
 have HZ:=hid' hz
 clear hz
 go_enter Tryz.func49,Tryz.ntmps49
 go_wp2_with fail
 go_loopw [1] (fun v1 wr=>∃(y:Nat),y<n/\v1=.int .i64 (y:Int)/\wr=w/\Hid (hd y=z)) (fun v1 _=>D (intOf v1).toNat)
 case atStart=>exact⟨x,hx,rfl,rfl,HZ.out.symm⟩
 case round=>
  obtain⟨y,hy,rfl,rfl,H⟩:=hrel
  have hyL:y<L.length:=by have:=HN.out;omega
  have hi0:(0:Int)<=(y:Int):=by omega
  have hii:(y:Int)<(n:Int):=by omega
  have c0:=HR.out.cell y _ (grow_at hyL)
  have HGO:=hid' (HG.out.go y hyL)
  have HST:=hid' (HG.out.stop y hyL)
  generalize L.getD y 0=t at c0 HGO HST
  by_cases e:t=y
  ·subst e
   have HE:=hid' ((HST.out rfl).symm.trans H.out)
   go_wp2_with fail
   go_ret
   exact⟨by rw[<-HE.out];rfl,rfl⟩
  ·have b0:((t:Int) != (y:Int))=true:=by simp;omega
   have HGO:=hid' (HGO.out e)
   go_wp2_with fail
   go_roundw
   case rel=>exact⟨t,by have:=HGO.out.1;have:=HN.out;omega,rfl,by first|rfl|trivial,HGO.out.2.1.trans H.out⟩
   case measure=>exact HGO.out.2.2
theorem joined_any (g n c a b:Nat)(L:List Nat)(hd D:Nat->Nat)(w:World)(hG:Gr L hd D)(hn:n=L.length)(ha:a<n)(hb:b<n)(hr:RowL 3 w g (grow L)) :
  Calls Tryz.prog 36 #[.slice (some ⟨g,0,none⟩) n c,.int .i64 (a:Int),.int .i64 (b:Int)] w fun e w'=>e=.returned (.bool (decide (hd a=hd b)))/\w'=w:=by
 have hA:=head_any g n c a L hd D w hG hn ha hr
 have hB:=head_any g n c b L hd D w hG hn hb hr
 clear hG hn hr
 generalize hd a=x at hA ⊢
 generalize hd b=y at hB ⊢
 go_enter Tryz.func36,Tryz.ntmps36
 go_wp2_with fail
 refine hA.mono ?_
 rintro e w1 ⟨rfl,rfl⟩
 go_wp2_with fail
 refine hB.mono ?_
 rintro e w2 ⟨rfl,rfl⟩
 go_wp2_with fail
 go_ret
 refine⟨?_,rfl⟩
 by_cases e:x=y
 ·subst e
  simp
 ·have b0:((x:Int) == (y:Int))=false:=by simp;omega
  simp[e,b0]
theorem grow_set (L:List Nat)(i v:Nat):(grow L).set i (.int .i64 (v:Int))=grow (L.set i v):=by
 unfold grow
 rw[List.map_set]
theorem join_any (g n c a b:Nat)(L:List Nat)(hd D:Nat->Nat)(w:World)(hG:Gr L hd D)(hn:n=L.length)(ha:a<n)(hb:b<n)(hr:RowL 3 w g (grow L)) :
  Calls Tryz.prog 34 #[.slice (some ⟨g,0,none⟩) n c,.int .i64 (a:Int),.int .i64 (b:Int)] w fun e w'=>e=.returned (.tuple #[])/\w'=w.setCell ⟨g,hd b,none⟩ (.int .i64 ((hd a:Nat):Int))/\RowL 3 w' g (grow (L.set (hd b) (hd a))):=by
 have hA:=head_any g n c a L hd D w hG hn ha hr
 have hB:=head_any g n c b L hd D w hG hn hb hr
 have hbl:hd b<L.length:=hG.lt b (by omega)
 have HR:=hid' (hr.set (hd b) (.int .i64 ((hd a:Nat):Int)))
 rw[grow_set]at HR
 have c0:=hr.cell (hd b) _ (grow_at hbl)
 have cz:=hr.fz
 have hii:((hd b:Nat):Int)<(n:Int):=by omega
 have hi0:(0:Int)<=((hd b:Nat):Int):=by omega
 clear hG hn hr hbl
 generalize hd a=x at hA HR ⊢
 generalize hd b=y at hB HR c0 hii hi0 ⊢
 go_enter Tryz.func34,Tryz.ntmps34
 go_wp2_with fail
 refine hB.mono ?_
 rintro e w1 ⟨rfl,rfl⟩
 go_wp2_with fail
 refine hA.mono ?_
 rintro e w2 ⟨rfl,rfl⟩
 go_wp2_with fail
 exact bodyPost_end (v:=.tuple #[]) (by simp[results,Tryz.results34,go_sem]) rfl ⟨rfl,rfl,HR.out⟩
open Q (hid' Lett ErrV Tab)
open X (RS OwnS strs)
def ndN (d:DE)(i:Nat):Nat:=(d.nodes.getD i 0).toNat
def tie1 (mo:Int)(hd:Nat->Nat)(d:DE):Nat->Nat:=if tieAB d.kind mo=true then joinH hd (ndN d 0) (ndN d 1) else hd
def tie2 (hd:Nat->Nat)(d:DE):Nat->Nat:=if tieCD d.kind=true then joinH hd (ndN d 2) (ndN d 3) else hd
def tied (mo:Int)(ds:List DE):Nat->Nat:=ds.foldl (fun hd d=>tie2 (tie1 mo hd d) d) (fun x=>x)
def floatsL (n:Nat)(hd:Nat->Nat):List Nat:=(List.range n).filter fun x=>!decide (hd x=hd 0)
theorem ends_ge {fn:Nat}{k:Int}{l:List Int}(h:endsB fn k l=true):2<=l.length/\(tieCD k=true->l.length=4)/\∀x∈l,0<=x/\x<(fn:Int):=by
 unfold endsB at h
 rw[Bool.and_eq_true,decide_eq_true_eq,Bool.not_eq_true',List.any_eq_false]at h
 have h2:=ends_two (fn:=fn) (k:=k) (l:=l) (by
  unfold endsB
  rw[Bool.and_eq_true,decide_eq_true_eq,Bool.not_eq_true',List.any_eq_false]
  exact h)
 refine⟨by omega,fun hc=>?_,fun x hx=>?_⟩
 ·have h1:=h.1
  unfold tieCD at hc
  rw[decide_eq_true_eq]at hc
  simp only[List.mem_cons,List.not_mem_nil,or_false]at hc
  rcases hc with rfl|rfl|rfl <;> (have h9:=h1.2;simp[endsN]at h9;omega)
 ·have:=h.2 x hx
  simp at this
  omega
open Q (hid' Lett ErrV Tab)
open X (RS OwnS strs)
theorem tied_snoc (mo:Int)(l:List DE)(d:DE):tied mo (l++[d])=tie2 (tie1 mo (tied mo l) d) d:=by
 unfold tied
 rw[List.foldl_append]
 rfl
theorem tied_at (mo:Int)(ds:List DE)(i:Nat)(hi:i<ds.length)(k:Int)(m0 m1 m2 m3:Nat)(h:k=ds[i].kind/\m0=ndN ds[i] 0/\m1=ndN ds[i] 1/\m2=ndN ds[i] 2/\m3=ndN ds[i] 3) :
  tied mo (ds.take (i+1))=(if tieCD k=true then joinH (if tieAB k mo=true then joinH (tied mo (ds.take i)) m0 m1 else tied mo (ds.take i)) m2 m3 else (if tieAB k mo=true then joinH (tied mo (ds.take i)) m0 m1 else tied mo (ds.take i))):=by
 obtain⟨rfl,rfl,rfl,rfl,rfl⟩:=h
 rw[List.take_succ_eq_append_getElem hi,tied_snoc]
 rfl
theorem flo_snoc (j:Nat)(hd:Nat->Nat):floatsL (j+1) hd=floatsL j hd++(if hd j=hd 0 then [] else [j]):=by
 unfold floatsL
 rw[List.range_succ,List.filter_append]
 by_cases h:hd j=hd 0 <;> simp[h]
theorem OwnI.snoc {B:Nat}{w:World}{v:Value}{l:List Int}{x:Int}(h:w.ownsRow B 3 1 v (l.length+1) (l.map (Value.int .i64)++[.int .i64 x])):OwnI B w v (l++[x]):=by
 unfold OwnI
 rw[List.length_append,List.map_append]
 exact h
theorem gr_join {L:List Nat}{hd D:Nat->Nat}{fn a b:Nat}(h:Gr L hd D/\fn=L.length)(ha:a<fn)(hb:b<fn):Gr (L.set (hd b) (hd a)) (joinH hd a b) (fun x=>if hd x=hd b then D x+D (hd a)+1 else D x)/\fn=(L.set (hd b) (hd a)).length :=
 ⟨h.1.join (by have:=h.2;omega) (by have:=h.2;omega),by rw[List.length_set];exact h.2⟩
theorem dev_open {fn:Nat}{w:World}{da:Option Addr}{dn dc:Nat}{ds:List DE}(h:DsR w (.slice da dn dc) ds)(i:Nat)(hi:i<ds.length)(he:endsB fn ds[i].kind ds[i].nodes=true) :
  ∃(b off:Nat) (k:Int) (s:ByteArray) (nb noff nn cn:Nat) (rf vm vx wk:Int) (av:Option Addr) (nv cv:Nat) (ai:Option Addr) (ni ci:Nat) (ms:ByteArray) (mk:Int) (a1:Option Addr) (n1 c1:Nat) (a2:Option Addr) (n2 c2:Nat) (m0 m1 m2 m3:Nat),da=some ⟨b,off,none⟩/\(k=ds[i].kind/\m0=ndN ds[i] 0/\m1=ndN ds[i] 1/\m2=ndN ds[i] 2/\m3=ndN ds[i] 3)/\(2<=nn/\m0<fn/\m1<fn)/\(tieCD k=true->nn=4/\m2<fn/\m3<fn) /\
   ∀V,Kept w V->(V.cell? ⟨b,off+i*13,none⟩=some (.int .u8 k)/\V.cell? ⟨b,off+i*13+1,none⟩=some (.string s)/\V.cell? ⟨b,off+i*13+2,none⟩=some (.slice (some ⟨nb,noff,none⟩) nn cn)/\V.cell? ⟨b,off+i*13+3,none⟩=some (.int .i64 rf)/\V.cell? ⟨b,off+i*13+4,none⟩=some (.int .i64 vm)/\V.cell? ⟨b,off+i*13+5,none⟩=some (.int .i64 vx)/\V.cell? ⟨b,off+i*13+6,none⟩=some (.int .i64 wk)/\V.cell? ⟨b,off+i*13+7,none⟩=some (.slice av nv cv)/\V.cell? ⟨b,off+i*13+8,none⟩=some (.slice ai ni ci)/\V.cell? ⟨b,off+i*13+9,none⟩=some (.string ms)/\V.cell? ⟨b,off+i*13+10,none⟩=some (.int .u8 mk)/\V.cell? ⟨b,off+i*13+11,none⟩=some (.slice a1 n1 c1)/\V.cell? ⟨b,off+i*13+12,none⟩=some (.slice a2 n2 c2))/\(V.cell? ⟨nb,noff,none⟩=some (.int .i64 (m0:Int))/\V.cell? ⟨nb,noff+1,none⟩=some (.int .i64 (m1:Int)))/\(tieCD k=true->V.cell? ⟨nb,noff+2,none⟩=some (.int .i64 (m2:Int))/\V.cell? ⟨nb,noff+3,none⟩=some (.int .i64 (m3:Int))):=by
 have hmem:ds[i]∈ds:=List.getElem_mem hi
 have hOK:=(h.2 _ hmem).nodes
 obtain⟨hEN1,hEN2,hEN3⟩:=ends_ge he
 have hxx:=map_getD DE.cells ds i hi
 obtain⟨ao',cap',hv,hx⟩:=h.1
 simp only[Value.slice.injEq]at hv
 obtain⟨rfl,hnn,rfl⟩:=hv
 rw[List.length_map]at hx
 obtain⟨b,off,rfl,hb',hc⟩:=hx (by omega)
 have hc':=fun j (hj:j<13)=>hc i hi j hj
 rw[hxx]at hc'
 clear hc hx hxx hmem
 generalize ds[i]=Dv at hc' hOK hEN1 hEN2 hEN3 he ⊢
 obtain⟨k,nm,nds,an,cn,rf,vm,vx,wk,wvl,av,cv,wsl,ai,ci,⟨mnm,mk,gsl,vsl⟩,a1,c1,a2,c2⟩:=Dv
 have hOK:ISl w (.slice an nds.length cn) nds:=hOK
 have hN1:2<=nds.length:=hEN1
 have hN2:tieCD k=true->nds.length=4:=hEN2
 have hN3:∀x∈nds,0<=x/\x<(fn:Int):=hEN3
 clear hEN1 hEN2 hEN3 he
 obtain⟨ao2,cap2,hv2,hx2⟩:=hOK
 simp only[Value.slice.injEq]at hv2
 obtain⟨rfl,-,rfl⟩:=hv2
 obtain⟨nb,noff,rfl,hnb,hnc⟩:=hx2 (by omega)
 have hm:∀j,j<nds.length->(nds.getD j 0).toNat<fn/\nds.getD j 0=(((nds.getD j 0).toNat:Nat):Int):=fun j hj=>by
  have hm:nds.getD j 0∈nds:=by rw[List.getD_eq_getElem?_getD,List.getElem?_eq_getElem hj];exact List.getElem_mem hj
  have:=hN3 _ hm
  omega
 have hcell:∀V,Kept w V->∀j,j<nds.length->V.cell? ⟨nb,noff+j,none⟩=some (.int .i64 (((nds.getD j 0).toNat:Nat):Int)):=fun V K j hj=>by
  rw[Below.cell K (p:=⟨nb,noff+j,none⟩) hnb,hnc j hj,<-(hm j hj).2]
 have x0:=hm 0 (by omega)
 have x1:=hm 1 (by omega)
 have x2:tieCD k=true->(nds.getD 2 0).toNat<fn/\(nds.getD 3 0).toNat<fn:=fun h4=>by
  have h5:=hN2 h4
  exact⟨(hm 2 (by omega)).1,(hm 3 (by omega)).1⟩
 have y0:=fun V K=>hcell V K 0 (by omega)
 have y1:=fun V K=>hcell V K 1 (by omega)
 have y2:=fun V K (h4:tieCD k=true)=>hcell V K 2 (by have h5:=hN2 h4;omega)
 have y3:=fun V K (h4:tieCD k=true)=>hcell V K 3 (by have h5:=hN2 h4;omega)
 refine⟨b,off,k,X.bs nm,nb,noff,nds.length,cn,rf,vm,vx,wk,av,wvl.length,cv,ai,wsl.length,ci,X.bs mnm,mk,a1,gsl.length,c1,a2,vsl.length,c2,(nds.getD 0 0).toNat,(nds.getD 1 0).toNat,(nds.getD 2 0).toNat,(nds.getD 3 0).toNat,rfl,⟨rfl,rfl,rfl,rfl,rfl⟩,⟨hN1,x0.1,x1.1⟩,fun h4=>⟨hN2 h4,x2 h4⟩,fun V K=>⟨?_,⟨y0 V K,y1 V K⟩,fun h4=>⟨y2 V K h4,y3 V K h4⟩⟩⟩
 have hk:∀j,j<13->V.cell? ⟨b,off+i*13+j,none⟩=_:=fun j hj=>(Below.cell K (p:=⟨b,off+i*13+j,none⟩) hb').trans (hc' j hj)
 exact⟨hk 0 (by omega),hk 1 (by omega),hk 2 (by omega),hk 3 (by omega),hk 4 (by omega),hk 5 (by omega),hk 6 (by omega),hk 7 (by omega),hk 8 (by omega),hk 9 (by omega),hk 10 (by omega),hk 11 (by omega),hk 12 (by omega)⟩
theorem floating_any (fa:Option Addr)(fn fc:Nat)(da:Option Addr)(dn dc:Nat)(fm fx fk:Int)(mo:Int)(ds:List DE)(w:World)(h:DsR w (.slice da dn dc) ds)(hends:∀d∈ds,endsB fn d.kind d.nodes=true)(hfn:1<=fn)(hfb:fn<=1000000)(hdb:dn<=1000000) :
  Calls Tryz.prog 19 #[.agg #[.slice fa fn fc,.slice da dn dc,.int .i64 fm,.int .i64 fx,.int .i64 fk],.int .i64 mo] w fun e w'=>Kept w w'/\∃v,e=.returned v/\OwnI w.heap.size w' v ((floatsL fn (tied mo ds)).map Int.ofNat):=by
 have hn:dn=ds.length:=by have:=h.1.len;rw[List.length_map]at this;exact this
 obtain⟨i0,hi,hz0,hz1,hz2⟩:=info_parts info_i64
 have HL:=hid' h
 have HN:=hid' hn
 have HE:=hid' hends
 clear h hn hends
 obtain⟨tf,htf⟩:∃f,f=tied mo ds:=⟨_,rfl⟩
 rw[<-htf]
 have HTF:=hid' htf
 clear htf
 have kA:=(Kept.refl w).alloc (.cells #[.slice fa fn fc,.slice da dn dc,.int .i64 fm,.int .i64 fx,.int .i64 fk] 27)
 have hA:=RowL.alloc 27 w [.slice fa fn fc,.slice da dn dc,.int .i64 fm,.int .i64 fx,.int .i64 fk]
 go_enter Tryz.func19,Tryz.ntmps19
 go_upto_region 1 with fail
 generalize w.alloc (.cells #[.slice fa fn fc,.slice da dn dc,.int .i64 fm,.int .i64 fx,.int .i64 fk] 27)=W at kA hA ⊢
 obtain⟨p,hp⟩:∃q,q=w.heap.size:=⟨_,rfl⟩
 rw[<-hp]at hA ⊢
 have HK:=hid' kA
 have HF:=hid' hA
 have f0:=hA.cell 0 (.slice fa fn fc)
 have HP:=hid' hp
 clear kA hA hp
 go_wp2_with fail
 refine(talone_any fn _ hfb).mono ?_
 rintro e w1 ⟨hk,g,rfl,hr,hgs⟩
 have HG:=hid' (Nat.le_trans HK.out.size hgs)
 have HK:=hid' (HK.out.trans hk)
 have HR:=hid' hr
 have f1:=(HF.out.kept hk).cell 1 (.slice da dn dc)
 clear hk hr hgs HF f0
 go_wp2_with fail
 clear f1
 go_loopw [17] (fun v17 wr=>∃(i:Nat) (L:List Nat) (D:Nat->Nat),i<=dn/\v17=.int .i64 (i:Int)/\Hid (Kept w wr/\Gr L (tied mo (ds.take i)) D/\fn=L.length/\RowL 3 wr g (grow L))) (fun v17 _=>dn-(intOf v17).toNat)
 case atStart=>exact⟨0,List.range fn,_,Nat.zero_le _,rfl,HK.out,Gr.alone fn,by simp,HR.out⟩
 case round=>
  obtain⟨i,L,D,hil,rfl,H⟩:=hrel
  clear HK HR
  by_cases hit:i<dn
  ·have hii:(i:Int)<(dn:Int):=by omega
   have hi0:(0:Int)<=(i:Int):=by omega
   have hiL:i<ds.length:=by have:=HN.out;omega
   obtain⟨b,off,k,s,nb,noff,nn,cn,rf,vm,vx,wk,av,nv,cv,ai,ni,ci,ms,mk,a1,n1,c1,a2,n2,c2,m0,m1,m2,m3,rfl,hkm,hlt,hcd,hV⟩:=dev_open (fn:=fn) HL.out i hiL (HE.out _ (List.getElem_mem hiL))
   have HT2:=hid' (tied_at mo ds i hiL k m0 m1 m2 m3 hkm)
   obtain⟨hd,hhd⟩:∃f,f=tied mo (ds.take i):=⟨_,rfl⟩
   rw[<-hhd]at H HT2
   clear hhd
   obtain⟨e0,e1,e2,e3,e4,e5,e6,e7,e8,e9,e10,e11,e12⟩:=(hV wr H.out.1).1
   have HV:=hid' hV
   have HCD:=hid' hcd
   have HB1:=hid' hlt.2
   have h0n:0<nn:=by have:=hlt.1;omega
   have h1n:(1:Int)<(nn:Int):=by have:=hlt.1;omega
   clear hkm hlt hcd hV
   have kD:=(Kept.refl wr).alloc (.cells #[.int .u8 k,.string s,.slice (some ⟨nb,noff,none⟩) nn cn,.int .i64 rf,.int .i64 vm,.int .i64 vx,.int .i64 wk,.slice av nv cv,.slice ai ni ci,.string ms,.int .u8 mk,.slice a1 n1 c1,.slice a2 n2 c2] 48)
   have hD:=RowL.alloc 48 wr [.int .u8 k,.string s,.slice (some ⟨nb,noff,none⟩) nn cn,.int .i64 rf,.int .i64 vm,.int .i64 vx,.int .i64 wk,.slice av nv cv,.slice ai ni ci,.string ms,.int .u8 mk,.slice a1 n1 c1,.slice a2 n2 c2]
   go_upto_region 5 with fail
   have HK:=hid' (H.out.1.trans kD)
   have HR:=hid' (H.out.2.2.2.kept kD)
   have HGr:=hid' (And.intro H.out.2.1 H.out.2.2.1)
   have hgq:¬wr.heap.size=g:=by have:=H.out.2.2.2.lt;omega
   generalize wr.alloc (.cells #[.int .u8 k,.string s,.slice (some ⟨nb,noff,none⟩) nn cn,.int .i64 rf,.int .i64 vm,.int .i64 vx,.int .i64 wk,.slice av nv cv,.slice ai ni ci,.string ms,.int .u8 mk,.slice a1 n1 c1,.slice a2 n2 c2] 48)=W2 at kD hD HK HR ⊢
   obtain⟨q,hq⟩:∃q,q=wr.heap.size:=⟨_,rfl⟩
   rw[<-hq]at hD hgq ⊢
   have HD:=hid' hD
   have g0:=hD.cell 0 (.int .u8 k)
   clear kD hD hq e0 e1 e2 e3 e4 e5 e6 e7 e8 e9 e10 e11 e12 H
   go_wp2_with fail
   refine(tieAB_any k mo _).mono ?_
   rintro e w3 ⟨rfl,rfl⟩
   clear g0
   cases hb1:tieAB k mo with
   |true=>
    rw[hb1]at HT2
    clear hb1
    go_upto_region 6 with fail
    have sS:=hid' (fun (V:World) (K:Kept w V) (R:RowL 48 V q [.int .u8 k,.string s,.slice (some ⟨nb,noff,none⟩) nn cn,.int .i64 rf,.int .i64 vm,.int .i64 vx,.int .i64 wk,.slice av nv cv,.slice ai ni ci,.string ms,.int .u8 mk,.slice a1 n1 c1,.slice a2 n2 c2])=>And.intro (R.cell 2 (.slice (some ⟨nb,noff,none⟩) nn cn)) ((HV.out V K).2.1))
    have kd:Kept w3 w3.drew:=(Kept.refl _).drew
    have HK:=hid' (HK.out.trans kd)
    have HD:=hid' (HD.out.kept kd)
    have HR:=hid' (HR.out.kept kd)
    refine wp_region_held_drew (S:=fun w'=>w'.cell? ⟨q,2,none⟩=some (.slice (some ⟨nb,noff,none⟩) nn cn)/\w'.cell? ⟨nb,noff,none⟩=some (.int .i64 (m0:Int))/\w'.cell? ⟨nb,noff+1,none⟩=some (.int .i64 (m1:Int))) (by kernel_rfl) (sS.out _ HK.out HD.out) (fun hHeld=>?_)
    clear kd
    generalize w3.drew=Wd1 at HK HD HR hHeld ⊢
    refine tk 0 hHeld ?_
    refine tk 1 hHeld ?_
    refine tk 2 hHeld ?_
    refine tk 3 hHeld ?_
    refine tk 4 hHeld ?_
    refine tk 5 hHeld ?_
    refine tk 6 hHeld ?_
    refine tk 7 hHeld ?_
    refine tk 8 hHeld ?_
    refine rdy 9 fun K hK=>?_
    go_simp
    have hj:=join_any g fn fn m0 m1 L hd D _ HGr.out.1 HGr.out.2 HB1.out.1 HB1.out.2 HR.out
    refine hj.mono ?_
    rintro e v1 ⟨rfl,hw5,hrow⟩
    have HK:=hid' (show Kept w v1 by rw[hw5];exact HK.out.setCell (p:=⟨g,_,none⟩) HG.out _)
    have HD:=hid' (show RowL 48 v1 q [.int .u8 k,.string s,.slice (some ⟨nb,noff,none⟩) nn cn,.int .i64 rf,.int .i64 vm,.int .i64 vx,.int .i64 wk,.slice av nv cv,.slice ai ni ci,.string ms,.int .u8 mk,.slice a1 n1 c1,.slice a2 n2 c2] by rw[hw5];exact HD.out.far (fun e=>hgq e) _ _)
    refine hK.out _ _ (sS.out _ HK.out HD.out) (fun hHeld=>?_)
    clear hK K
    refine _root_.Go.Proofs.YtdjhmgmjiglcbaaGreatDoor.dn ?_
    have HR:=hid' hrow
    have HGr:=hid' (gr_join HGr.out HB1.out.1 HB1.out.2)
    clear hrow hw5 hHeld sS hj
    have g0:=HD.out.cell 0 (.int .u8 k)
    go_upto_region 7 with fail
    go_wp2_with fail
    refine(tieCD_any k _).mono ?_
    rintro e u3 ⟨rfl,rfl⟩
    clear g0
    cases hb2:tieCD k with
    |true=>
     have HB2:=hid' (HCD.out hb2)
     have h2n:(2:Int)<(nn:Int):=by have:=HB2.out.1;omega
     have h3n:(3:Int)<(nn:Int):=by have:=HB2.out.1;omega
     have HB3:=hid' HB2.out.2
     have h23:=hid' (fun V K=>(HV.out V K).2.2 hb2)
     rw[hb2]at HT2
     clear hb2 HB2
     go_upto_region 8 with fail
     have sS:=hid' (fun (V:World) (K:Kept w V) (R:RowL 48 V q [.int .u8 k,.string s,.slice (some ⟨nb,noff,none⟩) nn cn,.int .i64 rf,.int .i64 vm,.int .i64 vx,.int .i64 wk,.slice av nv cv,.slice ai ni ci,.string ms,.int .u8 mk,.slice a1 n1 c1,.slice a2 n2 c2])=>And.intro (R.cell 2 (.slice (some ⟨nb,noff,none⟩) nn cn)) (h23.out V K))
     have kd:Kept u3 u3.drew:=(Kept.refl _).drew
     have HK:=hid' (HK.out.trans kd)
     have HD:=hid' (HD.out.kept kd)
     have HR:=hid' (HR.out.kept kd)
     refine wp_region_held_drew (S:=fun w'=>w'.cell? ⟨q,2,none⟩=some (.slice (some ⟨nb,noff,none⟩) nn cn)/\w'.cell? ⟨nb,noff+2,none⟩=some (.int .i64 (m2:Int))/\w'.cell? ⟨nb,noff+3,none⟩=some (.int .i64 (m3:Int))) (by kernel_rfl) (sS.out _ HK.out HD.out) (fun hHeld=>?_)
     clear kd
     generalize u3.drew=Wd2 at HK HD HR hHeld ⊢
     refine tk 0 hHeld ?_
     refine tk 1 hHeld ?_
     refine tk 2 hHeld ?_
     refine tk 3 hHeld ?_
     refine tk 4 hHeld ?_
     refine tk 5 hHeld ?_
     refine tk 6 hHeld ?_
     refine tk 7 hHeld ?_
     refine tk 8 hHeld ?_
     refine rdy 9 fun K hK=>?_
     go_simp
     have hj:=join_any g fn fn m2 m3 _ _ _ _ HGr.out.1 HGr.out.2 HB3.out.1 HB3.out.2 HR.out
     refine hj.mono ?_
     rintro e v2 ⟨rfl,hw5,hrow⟩
     have HK:=hid' (show Kept w v2 by rw[hw5];exact HK.out.setCell (p:=⟨g,_,none⟩) HG.out _)
     have HD:=hid' (show RowL 48 v2 q [.int .u8 k,.string s,.slice (some ⟨nb,noff,none⟩) nn cn,.int .i64 rf,.int .i64 vm,.int .i64 vx,.int .i64 wk,.slice av nv cv,.slice ai ni ci,.string ms,.int .u8 mk,.slice a1 n1 c1,.slice a2 n2 c2] by rw[hw5];exact HD.out.far (fun e=>hgq e) _ _)
     refine hK.out _ _ (sS.out _ HK.out HD.out) (fun hHeld=>?_)
     clear hK K
     refine _root_.Go.Proofs.YtdjhmgmjiglcbaaGreatDoor.dn ?_
     have HR:=hid' hrow
     have HGr:=hid' (gr_join HGr.out HB3.out.1 HB3.out.2)
     clear hrow hw5 hHeld sS hj
     go_wp2_with fail
     go_roundw
     case rel=>exact⟨i+1,_,_,by omega,by go_num,HK.out,(by rw[HT2.out];exact HGr.out.1),HGr.out.2,HR.out⟩
     case measure=>show dn-((i:Int)+1).toNat<dn-(i:Int).toNat;omega
    |false=>
     rw[hb2]at HT2
     clear hb2
     go_wp2_with fail
     go_roundw
     case rel=>exact⟨i+1,_,_,by omega,by go_num,HK.out,(by rw[HT2.out];exact HGr.out.1),HGr.out.2,HR.out⟩
     case measure=>show dn-((i:Int)+1).toNat<dn-(i:Int).toNat;omega
   |false=>
    rw[hb1]at HT2
    clear hb1
    have g0:=HD.out.cell 0 (.int .u8 k)
    go_upto_region 7 with fail
    go_wp2_with fail
    refine(tieCD_any k _).mono ?_
    rintro e u3 ⟨rfl,rfl⟩
    clear g0
    cases hb2:tieCD k with
    |true=>
     have HB2:=hid' (HCD.out hb2)
     have h2n:(2:Int)<(nn:Int):=by have:=HB2.out.1;omega
     have h3n:(3:Int)<(nn:Int):=by have:=HB2.out.1;omega
     have HB3:=hid' HB2.out.2
     have h23:=hid' (fun V K=>(HV.out V K).2.2 hb2)
     rw[hb2]at HT2
     clear hb2 HB2
     go_upto_region 8 with fail
     have sS:=hid' (fun (V:World) (K:Kept w V) (R:RowL 48 V q [.int .u8 k,.string s,.slice (some ⟨nb,noff,none⟩) nn cn,.int .i64 rf,.int .i64 vm,.int .i64 vx,.int .i64 wk,.slice av nv cv,.slice ai ni ci,.string ms,.int .u8 mk,.slice a1 n1 c1,.slice a2 n2 c2])=>And.intro (R.cell 2 (.slice (some ⟨nb,noff,none⟩) nn cn)) (h23.out V K))
     have kd:Kept u3 u3.drew:=(Kept.refl _).drew
     have HK:=hid' (HK.out.trans kd)
     have HD:=hid' (HD.out.kept kd)
     have HR:=hid' (HR.out.kept kd)
     refine wp_region_held_drew (S:=fun w'=>w'.cell? ⟨q,2,none⟩=some (.slice (some ⟨nb,noff,none⟩) nn cn)/\w'.cell? ⟨nb,noff+2,none⟩=some (.int .i64 (m2:Int))/\w'.cell? ⟨nb,noff+3,none⟩=some (.int .i64 (m3:Int))) (by kernel_rfl) (sS.out _ HK.out HD.out) (fun hHeld=>?_)
     clear kd
     generalize u3.drew=Wd2 at HK HD HR hHeld ⊢
     refine tk 0 hHeld ?_
     refine tk 1 hHeld ?_
     refine tk 2 hHeld ?_
     refine tk 3 hHeld ?_
     refine tk 4 hHeld ?_
     refine tk 5 hHeld ?_
     refine tk 6 hHeld ?_
     refine tk 7 hHeld ?_
     refine tk 8 hHeld ?_
     refine rdy 9 fun K hK=>?_
     go_simp
     have hj:=join_any g fn fn m2 m3 L hd D _ HGr.out.1 HGr.out.2 HB3.out.1 HB3.out.2 HR.out
     refine hj.mono ?_
     rintro e v2 ⟨rfl,hw5,hrow⟩
     have HK:=hid' (show Kept w v2 by rw[hw5];exact HK.out.setCell (p:=⟨g,_,none⟩) HG.out _)
     have HD:=hid' (show RowL 48 v2 q [.int .u8 k,.string s,.slice (some ⟨nb,noff,none⟩) nn cn,.int .i64 rf,.int .i64 vm,.int .i64 vx,.int .i64 wk,.slice av nv cv,.slice ai ni ci,.string ms,.int .u8 mk,.slice a1 n1 c1,.slice a2 n2 c2] by rw[hw5];exact HD.out.far (fun e=>hgq e) _ _)
     refine hK.out _ _ (sS.out _ HK.out HD.out) (fun hHeld=>?_)
     clear hK K
     refine _root_.Go.Proofs.YtdjhmgmjiglcbaaGreatDoor.dn ?_
     have HR:=hid' hrow
     have HGr:=hid' (gr_join HGr.out HB3.out.1 HB3.out.2)
     clear hrow hw5 hHeld sS hj
     go_wp2_with fail
     go_roundw
     case rel=>exact⟨i+1,_,_,by omega,by go_num,HK.out,(by rw[HT2.out];exact HGr.out.1),HGr.out.2,HR.out⟩
     case measure=>show dn-((i:Int)+1).toNat<dn-(i:Int).toNat;omega
    |false=>
     rw[hb2]at HT2
     clear hb2
     go_wp2_with fail
     go_roundw
     case rel=>exact⟨i+1,_,_,by omega,by go_num,HK.out,(by rw[HT2.out];exact HGr.out.1),HGr.out.2,HR.out⟩
     case measure=>show dn-((i:Int)+1).toNat<dn-(i:Int).toNat;omega
  ·have hii:¬(i:Int)<(dn:Int):=by omega
   obtain rfl:i=dn:=by omega
   have HGr:=hid' (And.intro (show Gr L tf D by have:=H.out.2.1;rw[List.take_of_length_le (by have:=HN.out;omega),<-HTF.out]at this;exact this) H.out.2.2.1)
   obtain⟨B,hB⟩:∃B,B=wr.heap.size:=⟨_,rfl⟩
   have HK:=hid' (And.intro H.out.1 (And.intro H.out.2.2.2 (And.intro (show B<=wr.heap.size by omega) (And.intro (show g<B by rw[hB];exact H.out.2.2.2.lt) (show w.heap.size<=B by rw[hB];exact H.out.1.size)))))
   clear H hB hit hil
   go_wp2_with fail
   go_loopw [8,51] (fun v8 v51 wr=>∃(j:Nat) (bv:Value),j<=fn/\v8=bv/\v51=.int .i64 (j:Int)/\Hid ((Kept w wr/\RowL 3 wr g (grow L)/\B<=wr.heap.size)/\OwnI B wr bv ((floatsL j tf).map Int.ofNat))) (fun _ v51 _=>fn-(intOf v51).toNat)
   case atStart=>exact⟨0,_,Nat.zero_le _,rfl,rfl,⟨HK.out.1,HK.out.2.1,HK.out.2.2.1⟩,World.ownsRow_nil _ _ _ _⟩
   case round=>
    obtain⟨j,bv,hjl,rfl,rfl,H⟩:=hrel
    have HB:=hid' (And.intro HK.out.2.2.2.1 HK.out.2.2.2.2)
    clear HK
    by_cases hjt:j<fn
    ·have hji:(j:Int)<(fn:Int):=by omega
     have hj0:(0:Int)<=(j:Int):=by omega
     have hJ:=joined_any g fn fn j 0 L tf D
     have HS:=hid' (flo_snoc j tf)
     by_cases e:tf j=tf 0
     ·rw[if_pos e,List.append_nil]at HS
      rw[decide_eq_true e]at hJ
      clear e
      go_wp2_with fail
      refine(hJ _ HGr.out.1 HGr.out.2 hjt (by omega) H.out.1.2.1).mono ?_
      rintro e w4 ⟨rfl,rfl⟩
      clear hJ
      go_wp2_with fail
      go_roundw
      case rel=>exact⟨j+1,_,by omega,rfl,by go_num,H.out.1,by rw[HS.out];exact H.out.2⟩
      case measure=>show fn-((j:Int)+1).toNat<fn-(j:Int).toNat;omega
     ·rw[if_neg e]at HS
      rw[decide_eq_false e]at hJ
      clear e
      go_wp2_with fail
      refine(hJ _ HGr.out.1 HGr.out.2 hjt (by omega) H.out.1.2.1).mono ?_
      rintro e w4 ⟨rfl,rfl⟩
      clear hJ
      obtain⟨l,hl⟩:∃l,l=(floatsL j tf).map Int.ofNat:=⟨_,rfl⟩
      have HS:=hid' (show (floatsL (j+1) tf).map Int.ofNat=l++[(j:Int)] by rw[HS.out,List.map_append,<-hl];rfl)
      have hll:l.length<=1000000:=by
       rw[hl,List.length_map]
       unfold floatsL
       have:=List.length_filter_le (fun x=>!decide (tf x=tf 0)) (List.range j)
       rw[List.length_range]at this
       omega
      rw[<-hl]at H
      clear hl
      go_wp2_with (at_builtin;refine wpList_append_lies _ rfl (.tmp 58) (.tmp 60) 31 rfl B 3 i0 (.int .i64 0) 1 8 und_ints hi hz0 hz1 hz2 rfl (by decide) u8 l.length (l.map (Value.int .i64)) rfl (by exact World.ownsRow.alloc H.out.2 _) ⟨w4.heap.size,0,none⟩ 1 1 [.int .i64 (j:Int)] rfl rfl (X.cell_new w4 _ _) (fun u hu=>by simp at hu;subst hu;rfl) (by omega) (by unfold maxLen;omega) (by omega) (by have:=H.out.1.2.2;simp;omega) _ rfl ?_)
      intro g4 cap4 W4 own4 hg4 hgg _
      have KT:=(Kept.refl w4).alloc (.cells #[.int .i64 (j:Int)] 3)
      have hb4:∀k,u8.ownBlock=some k->B<=k:=fun k hk=>(World.ownsRow.lt (show OwnI B _ u8 l from H.out.2) k hk).1
      have HO:=hid' (OwnI.snoc own4)
      have HN4:=hid' (And.intro (Below.grown (H.out.1.1.trans KT) hg4 (Nat.le_trans H.out.1.1.size KT.size) (fun k hk=>Nat.le_trans HB.out.2 (hb4 k hk))) (And.intro ((H.out.1.2.1.kept KT).block (hg4.block g (H.out.1.2.1.kept KT).lt (fun e=>by have:=hb4 g e.symm;have:=HB.out.1;omega))) (show B<=W4.heap.size from Nat.le_trans H.out.1.2.2 (Nat.le_trans KT.size hg4.size))))
      clear own4 hg4 hgg KT hb4
      go_wp2_with fail
      go_roundw
      case rel=>exact⟨j+1,_,by omega,rfl,by go_num,HN4.out,by rw[HS.out];exact HO.out⟩
      case measure=>show fn-((j:Int)+1).toNat<fn-(j:Int).toNat;omega
    ·have hji:¬(j:Int)<(fn:Int):=by omega
     obtain rfl:j=fn:=by omega
     go_wp2_with fail
     go_ret
     exact⟨H.out.1.1,_,rfl,own_mono H.out.2 HB.out.2⟩
open Q (hid')
open X (RS OwnS strs)
structure DE.wsz (d:DE):Prop where
 wv:d.wv.length<=9223372036854775807
 ws:d.ws.length<=9223372036854775807
theorem dev_raw {w:World}{da:Option Addr}{dn dc:Nat}{ds:List DE}(h:DsR w (.slice da dn dc) ds)(i:Nat)(hi:i<ds.length) :
  ∃b off:Nat,da=some ⟨b,off,none⟩/\∀V,Kept w V->V.cell? ⟨b,off+i*13,none⟩=some (.int .u8 ds[i].kind)/\V.cell? ⟨b,off+i*13+1,none⟩=some (.string (X.bs ds[i].name))/\V.cell? ⟨b,off+i*13+2,none⟩=some (.slice ds[i].an ds[i].nodes.length ds[i].cn)/\V.cell? ⟨b,off+i*13+3,none⟩=some (.int .i64 ds[i].ref)/\V.cell? ⟨b,off+i*13+4,none⟩=some (.int .i64 ds[i].vm)/\V.cell? ⟨b,off+i*13+5,none⟩=some (.int .i64 ds[i].vx)/\V.cell? ⟨b,off+i*13+6,none⟩=some (.int .i64 ds[i].wk)/\V.cell? ⟨b,off+i*13+7,none⟩=some (.slice ds[i].av ds[i].wv.length ds[i].cv)/\V.cell? ⟨b,off+i*13+8,none⟩=some (.slice ds[i].ai ds[i].ws.length ds[i].ci)/\V.cell? ⟨b,off+i*13+9,none⟩=some (.string (X.bs ds[i].md.name))/\V.cell? ⟨b,off+i*13+10,none⟩=some (.int .u8 ds[i].md.kind)/\V.cell? ⟨b,off+i*13+11,none⟩=some (.slice ds[i].a1 ds[i].md.gs.length ds[i].c1)/\V.cell? ⟨b,off+i*13+12,none⟩=some (.slice ds[i].a2 ds[i].md.vs.length ds[i].c2):=by
 have hxx:=map_getD DE.cells ds i hi
 obtain⟨ao',cap',hv,hx⟩:=h.1
 simp only[Value.slice.injEq]at hv
 obtain⟨rfl,hnn,rfl⟩:=hv
 rw[List.length_map]at hx
 obtain⟨b,off,rfl,hb',hc⟩:=hx (by omega)
 have hc':=fun j (hj:j<13)=>hc i hi j hj
 rw[hxx]at hc'
 refine⟨b,off,rfl,fun V K=>?_⟩
 have hk:∀j,j<13->V.cell? ⟨b,off+i*13+j,none⟩=_:=fun j hj=>(Below.cell K (p:=⟨b,off+i*13+j,none⟩) hb').trans (hc' j hj)
 exact⟨hk 0 (by omega),hk 1 (by omega),hk 2 (by omega),hk 3 (by omega),hk 4 (by omega),hk 5 (by omega),hk 6 (by omega),hk 7 (by omega),hk 8 (by omega),hk 9 (by omega),hk 10 (by omega),hk 11 (by omega),hk 12 (by omega)⟩
theorem own_caps {B:Nat}{w:World}{ao:Option Addr}{n cap:Nat}{ws:List (List UInt8)}(h:OwnS B w (.slice ao n cap) ws):n<=cap/\cap<=9223372036854775807:=by
 obtain⟨_,⟨h2,h3⟩|⟨_,_,_,h2,_,_,hn,hm,_⟩⟩:=h
 ·simp only[Value.slice.injEq]at h2
  omega
 ·simp only[Value.slice.injEq]at h2
  unfold maxLen at hm
  omega
open Q (parseOf okN textOf)
def setOk (m x k:Int):Bool:=okN m x&&(decide (0<m)&&methB k)
open Q (parseOf okN textOf)
def rtail (fn:Nat)(ds:List DE)(d:DE)(nodes:Nat)(ref value source modelled:Bool):Bool :=
 decide (d.nodes.length=nodes)&&(longB d.name&&(!(d.nodes.any fun x=>decide (x<0∨(fn:Int)<=x))&&((if ref=true then (decide (0<=d.ref/\d.ref<(ds.length:Int))&&((ds.map DE.kind).getD d.ref.toNat 0 == 118)) else decide (d.ref=0))&&((if value=true then okN d.vm d.vx else decide ((d.vm,d.vx)=(0,0)))&&((if source=true then okW d.wk d.wv d.ws else decide (d.wk=0/\d.wv=[]/\d.ws=[]))&&(if modelled=true then (okM d.md.name d.md.kind d.md.gs d.md.vs&&decide (d.md.kind=d.kind)) else decide (d.md.name=[]/\d.md.kind=0/\d.md.gs=[]/\d.md.vs=[])))))))
def rightD (fn:Nat)(ds:List DE)(d:DE):Bool :=
 if d.kind=114∨d.kind=99∨d.kind=108 then (if d.vm=0 then false else rtail fn ds d 2 false true false false)
 else if d.kind=118∨d.kind=105 then rtail fn ds d 2 false false true false
 else if d.kind=101∨d.kind=103∨d.kind=116 then rtail fn ds d 4 false true false false
 else if d.kind=102∨d.kind=104 then rtail fn ds d 2 true true false false
 else if d.kind=100 then rtail fn ds d 2 false false false true
 else if d.kind=115 then rtail fn ds d 4 false false false true
 else false
open Q (parseOf okN textOf)
theorem any_or {α:Type}(l:List α)(p q:α->Bool):(l.any fun x=>p x||q x)=(l.any p||l.any q):=by
 induction l with
 |nil=>rfl
 |cons x r ih=>
  simp only[List.any_cons,ih]
  cases p x <;> cases q x <;> simp
theorem names_eq (l:List (List UInt8)):namesB l=(l.all longB && !twP l):=by
 unfold namesB twP twiceB badN anyB
 rw[any_or,Bool.not_or]
 have h1:((List.range l.length).any fun x=>!longB (l.getD x []))=l.any fun x=>!longB x:=by
  rw[<-any_range l [] fun x=>!longB x]
 have h2:l.all longB=!(l.any fun x=>!longB x):=by
  rw[List.all_eq_not_any_not]
 rw[h1,h2]
 congr 2
 refine any_cong fun i _=>any_cong fun j _=>?_
 exact BEq.comm
def refChk (fm fx fk:Int)(ns:List (List UInt8))(ds:List DE):Int :=
 if (setOk fm fx fk&&(decide (1<=ns.length)&&(decide (ns.length<=32)&&(decide (ds.length<=64)&&(ns.getD 0 [] == [48])))))=false then 90
 else if ds.all (rightD ns.length ds)=false then 90
 else if ns.all longB=false then 90
 else if (twP (ds.map DE.name)||twP ns)=true then 90
 else if 48<unkN ns.length ds then 5 else 0
open Q (hid' Lett ErrV Tab)
open X (RS OwnS strs)
def holds (mo:Int)(hd:Nat->Nat)(d:DE):Nat->Nat:=if holdAB d.kind mo=true then joinH hd (ndN d 0) (ndN d 1) else hd
def held (mo:Int)(ds:List DE):Nat->Nat:=ds.foldl (holds mo) (fun x=>x)
def closesB (mo:Int)(hd:Nat->Nat)(d:DE):Bool:=holdAB d.kind mo&&decide (hd (ndN d 0)=hd (ndN d 1))
def loopsL (mo:Int)(ds:List DE):List Nat:=(List.range ds.length).filter fun i=>(ds[i]?.map (closesB mo (held mo (ds.take i)))).getD false
theorem held_snoc (mo:Int)(l:List DE)(d:DE):held mo (l++[d])=holds mo (held mo l) d:=by
 unfold held
 rw[List.foldl_append]
 rfl
def loopsUp (mo:Int)(ds:List DE)(i:Nat):List Nat:=(List.range i).filter fun i=>(ds[i]?.map (closesB mo (held mo (ds.take i)))).getD false
theorem loops_snoc (mo:Int)(ds:List DE)(i:Nat)(hi:i<ds.length):loopsUp mo ds (i+1)=loopsUp mo ds i++(if closesB mo (held mo (ds.take i)) ds[i]=true then [i] else []):=by
 unfold loopsUp
 rw[List.range_succ,List.filter_append]
 cases h:closesB mo (held mo (ds.take i)) ds[i] <;> simp[hi,h]
theorem closes_at (mo:Int)(ds:List DE)(i:Nat)(hi:i<ds.length)(k:Int)(m0 m1 m2 m3:Nat)(h:k=ds[i].kind/\m0=ndN ds[i] 0/\m1=ndN ds[i] 1/\m2=ndN ds[i] 2/\m3=ndN ds[i] 3) :
  held mo (ds.take (i+1))=(if holdAB k mo=true then joinH (held mo (ds.take i)) m0 m1 else held mo (ds.take i))/\loopsUp mo ds (i+1)=loopsUp mo ds i++(if (holdAB k mo&&decide (held mo (ds.take i) m0=held mo (ds.take i) m1))=true then [i] else []):=by
 obtain⟨rfl,rfl,rfl,rfl,rfl⟩:=h
 refine⟨?_,loops_snoc mo ds i hi⟩
 rw[List.take_succ_eq_append_getElem hi,held_snoc]
 rfl
theorem closing_any (fa:Option Addr)(fn fc:Nat)(da:Option Addr)(dn dc:Nat)(fm fx fk:Int)(mo:Int)(ds:List DE)(w:World)(h:DsR w (.slice da dn dc) ds)(hends:∀d∈ds,endsB fn d.kind d.nodes=true)(hfb:fn<=1000000)(hdb:dn<=1000000) :
  Calls Tryz.prog 20 #[.agg #[.slice fa fn fc,.slice da dn dc,.int .i64 fm,.int .i64 fx,.int .i64 fk],.int .i64 mo] w fun e w'=>Kept w w'/\∃v,e=.returned v/\OwnI w.heap.size w' v ((loopsL mo ds).map Int.ofNat):=by
 have hn:dn=ds.length:=by have:=h.1.len;rw[List.length_map]at this;exact this
 obtain⟨i0,hi,hz0,hz1,hz2⟩:=info_parts info_i64
 obtain⟨lf,hlf⟩:∃f,f=loopsL mo ds:=⟨_,rfl⟩
 rw[<-hlf]
 have HLL:=hid' (show lf=loopsUp mo ds dn by rw[hlf,hn];rfl)
 clear hlf
 have HL:=hid' h
 have HN:=hid' hn
 have HE:=hid' hends
 clear h hn hends
 have kA:=(Kept.refl w).alloc (.cells #[.slice fa fn fc,.slice da dn dc,.int .i64 fm,.int .i64 fx,.int .i64 fk] 27)
 have hA:=RowL.alloc 27 w [.slice fa fn fc,.slice da dn dc,.int .i64 fm,.int .i64 fx,.int .i64 fk]
 go_enter Tryz.func20,Tryz.ntmps20
 go_upto_region 1 with fail
 generalize w.alloc (.cells #[.slice fa fn fc,.slice da dn dc,.int .i64 fm,.int .i64 fx,.int .i64 fk] 27)=W at kA hA ⊢
 obtain⟨p,hp⟩:∃q,q=w.heap.size:=⟨_,rfl⟩
 rw[<-hp]at hA ⊢
 have HK:=hid' kA
 have HF:=hid' hA
 have f0:=hA.cell 0 (.slice fa fn fc)
 have HP:=hid' hp
 clear kA hA hp
 go_wp2_with fail
 refine(talone_any fn _ hfb).mono ?_
 rintro e w1 ⟨hk,g,rfl,hr,hgs⟩
 have HG:=hid' (Nat.le_trans HK.out.size hgs)
 have HK:=hid' (HK.out.trans hk)
 have HR:=hid' hr
 have f1:=(HF.out.kept hk).cell 1 (.slice da dn dc)
 clear hk hr hgs HF f0
 go_wp2_with fail
 clear f1
 obtain⟨B,hB⟩:∃B,B=w1.heap.size:=⟨_,rfl⟩
 have HB:=hid' (show g<B by rw[hB];exact HR.out.lt)
 have HBw:=hid' (show w.heap.size<=B by rw[hB];exact HK.out.size)
 have HBs:=hid' (show B<=w1.heap.size by omega)
 clear hB
 go_loopw [6,16] (fun v6 v16 wr=>∃(i:Nat) (L:List Nat) (D:Nat->Nat) (lv:Value),i<=dn/\v6=lv/\v16=.int .i64 (i:Int)/\Hid ((Kept w wr/\Gr L (held mo (ds.take i)) D/\fn=L.length/\RowL 3 wr g (grow L))/\B<=wr.heap.size/\OwnI B wr lv ((loopsUp mo ds i).map Int.ofNat))) (fun _ v16 _=>dn-(intOf v16).toNat)
 case atStart=>exact⟨0,List.range fn,_,_,Nat.zero_le _,rfl,rfl,⟨HK.out,Gr.alone fn,by simp,HR.out⟩,HBs.out,World.ownsRow_nil _ _ _ _⟩
 case round=>
  obtain⟨i,L,D,lv,hil,rfl,rfl,H⟩:=hrel
  clear HK HR HBs
  by_cases hit:i<dn
  ·have hii:(i:Int)<(dn:Int):=by omega
   have hi0:(0:Int)<=(i:Int):=by omega
   have hiL:i<ds.length:=by have:=HN.out;omega
   obtain⟨b,off,k,s,nb,noff,nn,cn,rf,vm,vx,wk,av,nv,cv,ai,ni,ci,ms,mk,a1,n1,c1,a2,n2,c2,m0,m1,m2,m3,rfl,hkm,hlt,hcd,hV⟩:=dev_open (fn:=fn) HL.out i hiL (HE.out _ (List.getElem_mem hiL))
   have HT2:=hid' (closes_at mo ds i hiL k m0 m1 m2 m3 hkm)
   obtain⟨hd,hhd⟩:∃f,f=held mo (ds.take i):=⟨_,rfl⟩
   rw[<-hhd]at H HT2
   clear hhd
   obtain⟨l,hl⟩:∃l,l=(loopsUp mo ds i).map Int.ofNat:=⟨_,rfl⟩
   have hll:l.length<=1000000:=by
    rw[hl,List.length_map]
    unfold loopsUp
    have:=List.length_filter_le (fun i=>(ds[i]?.map (closesB mo (held mo (ds.take i)))).getD false) (List.range i)
    rw[List.length_range]at this
    omega
   have HLS:=hid' (show (loopsUp mo ds (i+1)).map Int.ofNat=l++(if (holdAB k mo&&decide (hd m0=hd m1))=true then [(i:Int)] else []) by
    rw[HT2.out.2,List.map_append,<-hl]
    split <;> rfl)
   rw[<-hl]at H
   clear hl
   obtain⟨e0,e1,e2,e3,e4,e5,e6,e7,e8,e9,e10,e11,e12⟩:=(hV wr H.out.1.1).1
   have HV:=hid' hV
   have HCD:=hid' hcd
   have HB1:=hid' hlt.2
   have h0n:0<nn:=by have:=hlt.1;omega
   have h1n:(1:Int)<(nn:Int):=by have:=hlt.1;omega
   clear hkm hlt hcd hV
   have kD:=(Kept.refl wr).alloc (.cells #[.int .u8 k,.string s,.slice (some ⟨nb,noff,none⟩) nn cn,.int .i64 rf,.int .i64 vm,.int .i64 vx,.int .i64 wk,.slice av nv cv,.slice ai ni ci,.string ms,.int .u8 mk,.slice a1 n1 c1,.slice a2 n2 c2] 48)
   have hD:=RowL.alloc 48 wr [.int .u8 k,.string s,.slice (some ⟨nb,noff,none⟩) nn cn,.int .i64 rf,.int .i64 vm,.int .i64 vx,.int .i64 wk,.slice av nv cv,.slice ai ni ci,.string ms,.int .u8 mk,.slice a1 n1 c1,.slice a2 n2 c2]
   go_upto_region 6 with fail
   have HK:=hid' (H.out.1.1.trans kD)
   have HR:=hid' (H.out.1.2.2.2.kept kD)
   have HGr:=hid' (And.intro H.out.1.2.1 H.out.1.2.2.1)
   have HO:=hid' (show OwnI B _ u6 l from World.ownsRow.alloc H.out.2.2 (.cells #[.int .u8 k,.string s,.slice (some ⟨nb,noff,none⟩) nn cn,.int .i64 rf,.int .i64 vm,.int .i64 vx,.int .i64 wk,.slice av nv cv,.slice ai ni ci,.string ms,.int .u8 mk,.slice a1 n1 c1,.slice a2 n2 c2] 48))
   have HBs:=hid' (Nat.le_trans H.out.2.1 kD.size)
   have hgq:¬wr.heap.size=g:=by have:=H.out.1.2.2.2.lt;omega
   generalize wr.alloc (.cells #[.int .u8 k,.string s,.slice (some ⟨nb,noff,none⟩) nn cn,.int .i64 rf,.int .i64 vm,.int .i64 vx,.int .i64 wk,.slice av nv cv,.slice ai ni ci,.string ms,.int .u8 mk,.slice a1 n1 c1,.slice a2 n2 c2] 48)=W2 at kD hD HK HR HO HBs ⊢
   obtain⟨q,hq⟩:∃q,q=wr.heap.size:=⟨_,rfl⟩
   have hqB:B<=q:=by rw[hq];exact H.out.2.1
   rw[<-hq]at hD hgq ⊢
   have HD:=hid' hD
   have HQB:=hid' hqB
   have g0:=hD.cell 0 (.int .u8 k)
   clear kD hD hq hqB e0 e1 e2 e3 e4 e5 e6 e7 e8 e9 e10 e11 e12 H HCD
   go_wp2_with fail
   refine(holdAB_any k mo _).mono ?_
   rintro e w3 ⟨rfl,rfl⟩
   clear g0
   cases hb1:holdAB k mo with
   |false=>
    have HH:=hid' (show held mo (ds.take (i+1))=hd by rw[HT2.out.1,hb1];rfl)
    rw[hb1]at HLS
    clear hb1 HT2
    go_wp2_with fail
    go_roundw
    case rel=>exact⟨i+1,_,_,_,by omega,rfl,by go_num,⟨HK.out,(by rw[HH.out];exact HGr.out.1),HGr.out.2,HR.out⟩,HBs.out,by rw[HLS.out];simpa using HO.out⟩
    case measure=>show dn-((i:Int)+1).toNat<dn-(i:Int).toNat;omega
   |true=>
    have HH:=hid' (show held mo (ds.take (i+1))=joinH hd m0 m1 by rw[HT2.out.1,hb1];rfl)
    rw[hb1,Bool.true_and]at HLS
    clear hb1 HT2
    go_upto_region 7 with fail
    have sS:=hid' (fun (V:World) (K:Kept w V) (R:RowL 48 V q [.int .u8 k,.string s,.slice (some ⟨nb,noff,none⟩) nn cn,.int .i64 rf,.int .i64 vm,.int .i64 vx,.int .i64 wk,.slice av nv cv,.slice ai ni ci,.string ms,.int .u8 mk,.slice a1 n1 c1,.slice a2 n2 c2])=>And.intro (R.cell 2 (.slice (some ⟨nb,noff,none⟩) nn cn)) ((HV.out V K).2.1))
    have kd:Kept w3 w3.drew:=(Kept.refl _).drew
    have HK:=hid' (HK.out.trans kd)
    have HD:=hid' (HD.out.kept kd)
    have HR:=hid' (HR.out.kept kd)
    have HO:=hid' (show OwnI B w3.drew u6 l from World.ownsRow.drew HO.out)
    have HBs:=hid' (Nat.le_trans HBs.out kd.size)
    refine wp_region_held_drew (S:=fun w'=>w'.cell? ⟨q,2,none⟩=some (.slice (some ⟨nb,noff,none⟩) nn cn)/\w'.cell? ⟨nb,noff,none⟩=some (.int .i64 (m0:Int))/\w'.cell? ⟨nb,noff+1,none⟩=some (.int .i64 (m1:Int))) (by kernel_rfl) (sS.out _ HK.out HD.out) (fun hHeld=>?_)
    clear kd
    generalize w3.drew=Wd1 at HK HD HR HO HBs hHeld ⊢
    refine tk 0 hHeld ?_
    refine tk 1 hHeld ?_
    refine tk 2 hHeld ?_
    refine tk 3 hHeld ?_
    refine tk 4 hHeld ?_
    refine tk 5 hHeld ?_
    refine tk 6 hHeld ?_
    refine tk 7 hHeld ?_
    refine tk 8 hHeld ?_
    refine rdy 9 fun K hK=>?_
    go_simp
    have hj:=joined_any g fn fn m0 m1 L hd D _ HGr.out.1 HGr.out.2 HB1.out.1 HB1.out.2 HR.out
    refine hj.mono ?_
    rintro e w5 ⟨rfl,rfl⟩
    refine hK.out _ _ (sS.out _ HK.out HD.out) (fun hHeld=>?_)
    clear hK K
    refine _root_.Go.Proofs.YtdjhmgmjiglcbaaGreatDoor.dn ?_
    clear hHeld sS hj
    by_cases e:hd m0=hd m1
    ·rw[decide_eq_true e,if_pos rfl]at HLS
     rw[decide_eq_true e]
     clear e
     go_upto_region 8 with fail
     go_wp2_with (at_builtin;refine wpList_append_lies _ rfl (.tmp 36) (.tmp 38) 31 rfl B 3 i0 (.int .i64 0) 1 8 und_ints hi hz0 hz1 hz2 rfl (by decide) u6 l.length (l.map (Value.int .i64)) rfl (by exact World.ownsRow.alloc HO.out _) ⟨w5.heap.size,0,none⟩ 1 1 [.int .i64 (i:Int)] rfl rfl (X.cell_new w5 _ _) (fun u hu=>by simp at hu;subst hu;rfl) (by omega) (by unfold maxLen;omega) (by omega) (by have:=HBs.out;simp;omega) _ rfl ?_)
     intro g4 cap4 W4 own4 hg4 hgg _
     have KT:=(Kept.refl w5).alloc (.cells #[.int .i64 (i:Int)] 3)
     have hb4:∀k,u6.ownBlock=some k->B<=k:=fun k hk=>(World.ownsRow.lt (show OwnI B _ u6 l from HO.out) k hk).1
     have hnq:u6.ownBlock≠some q:=own_row HO.out HD.out (by decide)
     have HK:=hid' (show Kept w W4 from Below.grown (HK.out.trans KT) hg4 (Nat.le_trans HK.out.size KT.size) (fun k hk=>Nat.le_trans HBw.out (hb4 k hk)))
     have HR:=hid' ((HR.out.kept KT).block (hg4.block g (HR.out.kept KT).lt (fun e=>by have:=hb4 g e.symm;have:=HB.out;omega)))
     have HD:=hid' ((HD.out.kept KT).block (hg4.block q (HD.out.kept KT).lt (fun e=>hnq e.symm)))
     have HBs:=hid' (show B<=W4.heap.size from Nat.le_trans HBs.out (Nat.le_trans KT.size hg4.size))
     have HO:=hid' (OwnI.snoc own4)
     clear own4 hg4 hgg KT hb4 hnq
     obtain⟨lw,hlw⟩:∃x,x=(Value.slice (some ⟨g4,0,none⟩) (l.length+1) cap4):=⟨_,rfl⟩
     rw[<-hlw]at HO
     have HLW:=hid' hlw
     clear hlw
     go_upto_region 9 with fail
     have sS:=hid' (fun (V:World) (K:Kept w V) (R:RowL 48 V q [.int .u8 k,.string s,.slice (some ⟨nb,noff,none⟩) nn cn,.int .i64 rf,.int .i64 vm,.int .i64 vx,.int .i64 wk,.slice av nv cv,.slice ai ni ci,.string ms,.int .u8 mk,.slice a1 n1 c1,.slice a2 n2 c2])=>And.intro (R.cell 2 (.slice (some ⟨nb,noff,none⟩) nn cn)) ((HV.out V K).2.1))
     have kd:Kept W4 W4.drew:=(Kept.refl _).drew
     have HK:=hid' (HK.out.trans kd)
     have HD:=hid' (HD.out.kept kd)
     have HR:=hid' (HR.out.kept kd)
     have HBs:=hid' (Nat.le_trans HBs.out kd.size)
     have HO:=hid' (show OwnI B W4.drew lw _ from World.ownsRow.drew HO.out)
     refine wp_region_held_drew (S:=fun w'=>w'.cell? ⟨q,2,none⟩=some (.slice (some ⟨nb,noff,none⟩) nn cn)/\w'.cell? ⟨nb,noff,none⟩=some (.int .i64 (m0:Int))/\w'.cell? ⟨nb,noff+1,none⟩=some (.int .i64 (m1:Int))) (by kernel_rfl) (sS.out _ HK.out HD.out) (fun hHeld=>?_)
     clear kd
     generalize W4.drew=Wd2 at HK HD HR HO HBs hHeld ⊢
     refine tk 0 hHeld ?_
     refine tk 1 hHeld ?_
     refine tk 2 hHeld ?_
     refine tk 3 hHeld ?_
     refine tk 4 hHeld ?_
     refine tk 5 hHeld ?_
     refine tk 6 hHeld ?_
     refine tk 7 hHeld ?_
     refine tk 8 hHeld ?_
     refine rdy 9 fun K hK=>?_
     go_simp
     have hj:=join_any g fn fn m0 m1 L hd D _ HGr.out.1 HGr.out.2 HB1.out.1 HB1.out.2 HR.out
     refine hj.mono ?_
     rintro e v2 ⟨rfl,hw5,hrow⟩
     have HK:=hid' (show Kept w v2 by rw[hw5];exact HK.out.setCell (p:=⟨g,_,none⟩) HG.out _)
     have HD:=hid' (show RowL 48 v2 q [.int .u8 k,.string s,.slice (some ⟨nb,noff,none⟩) nn cn,.int .i64 rf,.int .i64 vm,.int .i64 vx,.int .i64 wk,.slice av nv cv,.slice ai ni ci,.string ms,.int .u8 mk,.slice a1 n1 c1,.slice a2 n2 c2] by rw[hw5];exact HD.out.far (fun e=>hgq e) _ _)
     have HO:=hid' (show OwnI B v2 lw _ by rw[hw5];exact ownsRow_setCell_below HO.out (a:=⟨g,_,none⟩) HB.out _)
     have HBs:=hid' (show B<=v2.heap.size by rw[hw5];simpa[World.setCell]using HBs.out)
     refine hK.out _ _ (sS.out _ HK.out HD.out) (fun hHeld=>?_)
     clear hK K
     refine _root_.Go.Proofs.YtdjhmgmjiglcbaaGreatDoor.dn ?_
     have HR:=hid' hrow
     have HGr:=hid' (gr_join HGr.out HB1.out.1 HB1.out.2)
     clear hrow hw5 hHeld sS hj
     go_wp2_with fail
     go_roundw
     case rel=>exact⟨i+1,_,_,_,by omega,rfl,by go_num,⟨HK.out,(by rw[HH.out];exact HGr.out.1),HGr.out.2,HR.out⟩,HBs.out,by rw[HLS.out];exact(by rw[<-HLW.out];exact HO.out)⟩
     case measure=>show dn-((i:Int)+1).toNat<dn-(i:Int).toNat;omega
    ·rw[decide_eq_false e,if_neg (by decide),List.append_nil]at HLS
     rw[decide_eq_false e]
     clear e
     go_upto_region 9 with fail
     have sS:=hid' (fun (V:World) (K:Kept w V) (R:RowL 48 V q [.int .u8 k,.string s,.slice (some ⟨nb,noff,none⟩) nn cn,.int .i64 rf,.int .i64 vm,.int .i64 vx,.int .i64 wk,.slice av nv cv,.slice ai ni ci,.string ms,.int .u8 mk,.slice a1 n1 c1,.slice a2 n2 c2])=>And.intro (R.cell 2 (.slice (some ⟨nb,noff,none⟩) nn cn)) ((HV.out V K).2.1))
     have kd:Kept w5 w5.drew:=(Kept.refl _).drew
     have HK:=hid' (HK.out.trans kd)
     have HD:=hid' (HD.out.kept kd)
     have HR:=hid' (HR.out.kept kd)
     have HBs:=hid' (Nat.le_trans HBs.out kd.size)
     have HO:=hid' (show OwnI B w5.drew u6 _ from World.ownsRow.drew HO.out)
     refine wp_region_held_drew (S:=fun w'=>w'.cell? ⟨q,2,none⟩=some (.slice (some ⟨nb,noff,none⟩) nn cn)/\w'.cell? ⟨nb,noff,none⟩=some (.int .i64 (m0:Int))/\w'.cell? ⟨nb,noff+1,none⟩=some (.int .i64 (m1:Int))) (by kernel_rfl) (sS.out _ HK.out HD.out) (fun hHeld=>?_)
     clear kd
     generalize w5.drew=Wd2 at HK HD HR HO HBs hHeld ⊢
     refine tk 0 hHeld ?_
     refine tk 1 hHeld ?_
     refine tk 2 hHeld ?_
     refine tk 3 hHeld ?_
     refine tk 4 hHeld ?_
     refine tk 5 hHeld ?_
     refine tk 6 hHeld ?_
     refine tk 7 hHeld ?_
     refine tk 8 hHeld ?_
     refine rdy 9 fun K hK=>?_
     go_simp
     have hj:=join_any g fn fn m0 m1 L hd D _ HGr.out.1 HGr.out.2 HB1.out.1 HB1.out.2 HR.out
     refine hj.mono ?_
     rintro e v2 ⟨rfl,hw5,hrow⟩
     have HK:=hid' (show Kept w v2 by rw[hw5];exact HK.out.setCell (p:=⟨g,_,none⟩) HG.out _)
     have HD:=hid' (show RowL 48 v2 q [.int .u8 k,.string s,.slice (some ⟨nb,noff,none⟩) nn cn,.int .i64 rf,.int .i64 vm,.int .i64 vx,.int .i64 wk,.slice av nv cv,.slice ai ni ci,.string ms,.int .u8 mk,.slice a1 n1 c1,.slice a2 n2 c2] by rw[hw5];exact HD.out.far (fun e=>hgq e) _ _)
     have HO:=hid' (show OwnI B v2 u6 _ by rw[hw5];exact ownsRow_setCell_below HO.out (a:=⟨g,_,none⟩) HB.out _)
     have HBs:=hid' (show B<=v2.heap.size by rw[hw5];simpa[World.setCell]using HBs.out)
     refine hK.out _ _ (sS.out _ HK.out HD.out) (fun hHeld=>?_)
     clear hK K
     refine _root_.Go.Proofs.YtdjhmgmjiglcbaaGreatDoor.dn ?_
     have HR:=hid' hrow
     have HGr:=hid' (gr_join HGr.out HB1.out.1 HB1.out.2)
     clear hrow hw5 hHeld sS hj
     go_wp2_with fail
     go_roundw
     case rel=>exact⟨i+1,_,_,_,by omega,rfl,by go_num,⟨HK.out,(by rw[HH.out];exact HGr.out.1),HGr.out.2,HR.out⟩,HBs.out,by rw[HLS.out];exact HO.out⟩
     case measure=>show dn-((i:Int)+1).toNat<dn-(i:Int).toNat;omega
  ·have hii:¬(i:Int)<(dn:Int):=by omega
   obtain rfl:i=dn:=by omega
   have HF:=hid' (And.intro H.out.1.1 (show OwnI B wr u6 (lf.map Int.ofNat) by rw[HLL.out];exact H.out.2.2))
   clear H
   go_wp2_with fail
   go_ret
   exact⟨HF.out.1,_,rfl,own_mono HF.out.2 HBw.out⟩
open Q (hid' Lett ErrV Tab)
open X (RS OwnS strs)
theorem ref_ok {fm fx fk mo:Int}{ns:List (List UInt8)}{ds:List DE}(h:refT fm fx fk ns ds mo=0):(∀d∈ds,endsB ns.length d.kind d.nodes=true)/\1<=ns.length/\ns.length<=32/\ds.length<=64:=by
 have hc:chkF fm fx fk ns ds=0:=by
  unfold refT at h
  split at h
  ·assumption
  ·exact h
 have hb:(fsetB fm fx fk&&(nodesB ns&&fdevsB ns.length fm fx fk ds))=true:=by
  cases hb:(fsetB fm fx fk&&(nodesB ns&&fdevsB ns.length fm fx fk ds)) with
  |true=>rfl
  |false=>rw[chkF_bad hb]at hc;cases hc
 rw[Bool.and_eq_true,Bool.and_eq_true]at hb
 obtain⟨_,hn,hd⟩:=hb
 unfold nodesB at hn
 rw[Bool.and_eq_true,decide_eq_true_eq]at hn
 unfold fdevsB at hd
 rw[Bool.and_eq_true,Bool.and_eq_true,decide_eq_true_eq,List.all_eq_true]at hd
 refine⟨fun d hm=>?_,hn.1.1,hn.1.2,hd.1⟩
 have:=hd.2.1 d hm
 unfold fdevB at this
 rw[Bool.and_eq_true]at this
 exact this.1
def floR (fm fx fk:Int)(ns:List (List UInt8))(ds:List DE)(mo:Int):List Int:=if refT fm fx fk ns ds mo=0 then (floatsL ns.length (tied mo ds)).map Int.ofNat else []
def looR (fm fx fk:Int)(ns:List (List UInt8))(ds:List DE)(mo:Int):List Int:=if refT fm fx fk ns ds mo=0 then (loopsL mo ds).map Int.ofNat else []
theorem floR_len (fm fx fk:Int)(ns:List (List UInt8))(ds:List DE)(mo:Int):(floR fm fx fk ns ds mo).length<=32:=by
 unfold floR
 split
 ·rename_i h
  have:=(ref_ok h).2.2.1
  have h2:=List.length_filter_le (fun x=>!decide (tied mo ds x=tied mo ds 0)) (List.range ns.length)
  rw[List.length_range]at h2
  rw[List.length_map]
  unfold floatsL
  omega
 ·exact Nat.zero_le _
def tchk (fm fx fk:Int)(ns:List (List UInt8))(ds:List DE)(mo:Int):Int:=if refT fm fx fk ns ds mo=0 then (if (floR fm fx fk ns ds mo).length=0 then (if (looR fm fx fk ns ds mo).length=0 then 0 else 101) else 100) else refT fm fx fk ns ds mo
theorem Floats_any (fa:Option Addr)(fn fc:Nat)(da:Option Addr)(dn dc:Nat)(fm fx fk:Int)(mo:Int)(ns:List (List UInt8))(ds:List DE)(w:World)(hns:RS w (.slice fa fn fc) ns)(hcap:fn<=fc)(hbig:fc<=9223372036854775807)(hs:∀x∈ns,x.length<=4611686018427387903)(h:DsR w (.slice da dn dc) ds)(hz:∀d∈ds,d.sz)(hL:Lett w)(hE:ErrV w)(hT:Tab w) :
  Calls Tryz.prog 9 #[.agg #[.slice fa fn fc,.slice da dn dc,.int .i64 fm,.int .i64 fx,.int .i64 fk],.int .i64 mo] w fun e w'=>Kept w w'/\∃ao n c,e=.returned (.tuple #[.slice ao n c,.int .i64 (refT fm fx fk ns ds mo)])/\n=(floR fm fx fk ns ds mo).length/\OwnI w.heap.size w' (.slice ao n c) (floR fm fx fk ns ds mo):=by
 obtain⟨z,hzz⟩:∃z,z=refT fm fx fk ns ds mo:=⟨_,rfl⟩
 have hf:fn=ns.length:=by obtain⟨_,_,e,_⟩:=hns;simp at e;exact e.2.1
 have hn:dn=ds.length:=by have:=h.1.len;rw[List.length_map]at this;exact this
 have kA:=(Kept.refl w).alloc (.cells #[.slice fa fn fc,.slice da dn dc,.int .i64 fm,.int .i64 fx,.int .i64 fk] 27)
 have HC:=hid' (refused_any fa fn fc da dn dc fm fx fk mo ns ds _ (hns.kept kA) hcap hbig hs (h.kept kA) hz (hL.kept kA) (hE.kept kA) (hT.kept kA))
 have HD:=hid' h
 have HO:=hid' (fun (e:z=0)=>show (∀d∈ds,endsB fn d.kind d.nodes=true)/\1<=fn/\fn<=1000000/\dn<=1000000 by
  obtain⟨h1,h2,h3,h4⟩:=ref_ok (hzz.symm.trans e)
  rw[hf,hn]
  exact⟨h1,h2,by omega,by omega⟩)
 have HNF:=hid' hf
 have hA:=RowL.alloc 27 w [.slice fa fn fc,.slice da dn dc,.int .i64 fm,.int .i64 fx,.int .i64 fk]
 obtain⟨R,hR⟩:∃R,R=floR fm fx fk ns ds mo:=⟨_,rfl⟩
 have HR:=hid' (show R=if z=0 then (floatsL ns.length (tied mo ds)).map Int.ofNat else [] by rw[hR,hzz];rfl)
 rw[<-hzz]at HC
 rw[<-hzz,<-hR]
 clear hR
 clear hns hcap hbig hs h hz hL hE hT hf hn hzz
 go_enter Tryz.func9,Tryz.ntmps9
 go_upto_region 1 with fail
 generalize w.alloc (.cells #[.slice fa fn fc,.slice da dn dc,.int .i64 fm,.int .i64 fx,.int .i64 fk] 27)=W at kA hA HC ⊢
 obtain⟨p,hp⟩:∃q,q=w.heap.size:=⟨_,rfl⟩
 rw[<-hp]at hA ⊢
 have HF:=hid' hA
 have HK:=hid' kA
 have HP:=hid' hp
 clear kA hA hp
 have f0:=HF.out.cell 0 (.slice fa fn fc)
 have f1:=HF.out.cell 1 (.slice da dn dc)
 have f2:=HF.out.cell 2 (.int .i64 fm)
 have f3:=HF.out.cell 3 (.int .i64 fx)
 have f4:=HF.out.cell 4 (.int .i64 fk)
 go_wp2_with fail
 refine HC.out.mono ?_
 rintro e w1 ⟨hk,rfl⟩
 have HF:=hid' (HF.out.kept hk)
 have HK:=hid' (HK.out.trans hk)
 clear hk f0 f1 f2 f3 f4 HC
 by_cases h0:z=0
 ·subst h0
  obtain⟨o1,o2,o3,o4⟩:=HO.out rfl
  have HE:=hid' o1
  have HRR:=hid' (show R=(floatsL fn (tied mo ds)).map Int.ofNat by rw[HR.out,if_pos rfl];rw[HNF.out])
  clear o1 HO HR
  have f0:=HF.out.cell 0 (.slice fa fn fc)
  have f1:=HF.out.cell 1 (.slice da dn dc)
  have f2:=HF.out.cell 2 (.int .i64 fm)
  have f3:=HF.out.cell 3 (.int .i64 fx)
  have f4:=HF.out.cell 4 (.int .i64 fk)
  go_wp2_with fail
  refine(floating_any fa fn fc da dn dc fm fx fk mo ds _ (HD.out.kept HK.out) HE.out o2 o3 o4).mono ?_
  rintro e w2 ⟨hk,v,rfl,hv⟩
  rw[<-HRR.out]at hv
  obtain⟨ao,cap,hvs⟩:=own_shape hv
  obtain⟨n,hn⟩:∃n,n=R.length:=⟨_,rfl⟩
  rw[<-hn]at hvs
  subst hvs
  have HV:=hid' (And.intro hn (own_mono hv HK.out.size))
  have HK:=hid' (HK.out.trans hk)
  clear hk hv hn f0 f1 f2 f3 f4
  go_wp2_with fail
  go_ret2
  exact⟨HK.out,_,_,_,rfl,HV.out.1,HV.out.2⟩
 ·have b0:(z != 0)=true:=by simpa using h0
  have HRR:=hid' (show R=[] by rw[HR.out,if_neg h0])
  clear h0 HR
  go_wp2_with fail
  go_ret2
  exact⟨HK.out,none,0,0,rfl,by rw[HRR.out];rfl,by rw[HRR.out];exact World.ownsRow_nil _ _ _ _⟩
theorem Loops_any (fa:Option Addr)(fn fc:Nat)(da:Option Addr)(dn dc:Nat)(fm fx fk:Int)(mo:Int)(ns:List (List UInt8))(ds:List DE)(w:World)(hns:RS w (.slice fa fn fc) ns)(hcap:fn<=fc)(hbig:fc<=9223372036854775807)(hs:∀x∈ns,x.length<=4611686018427387903)(h:DsR w (.slice da dn dc) ds)(hz:∀d∈ds,d.sz)(hL:Lett w)(hE:ErrV w)(hT:Tab w) :
  Calls Tryz.prog 10 #[.agg #[.slice fa fn fc,.slice da dn dc,.int .i64 fm,.int .i64 fx,.int .i64 fk],.int .i64 mo] w fun e w'=>Kept w w'/\∃ao n c,e=.returned (.tuple #[.slice ao n c,.int .i64 (refT fm fx fk ns ds mo)])/\n=(looR fm fx fk ns ds mo).length/\OwnI w.heap.size w' (.slice ao n c) (looR fm fx fk ns ds mo):=by
 obtain⟨z,hzz⟩:∃z,z=refT fm fx fk ns ds mo:=⟨_,rfl⟩
 have hf:fn=ns.length:=by obtain⟨_,_,e,_⟩:=hns;simp at e;exact e.2.1
 have hn:dn=ds.length:=by have:=h.1.len;rw[List.length_map]at this;exact this
 have kA:=(Kept.refl w).alloc (.cells #[.slice fa fn fc,.slice da dn dc,.int .i64 fm,.int .i64 fx,.int .i64 fk] 27)
 have HC:=hid' (refused_any fa fn fc da dn dc fm fx fk mo ns ds _ (hns.kept kA) hcap hbig hs (h.kept kA) hz (hL.kept kA) (hE.kept kA) (hT.kept kA))
 have HD:=hid' h
 have HO:=hid' (fun (e:z=0)=>show (∀d∈ds,endsB fn d.kind d.nodes=true)/\1<=fn/\fn<=1000000/\dn<=1000000 by
  obtain⟨h1,h2,h3,h4⟩:=ref_ok (hzz.symm.trans e)
  rw[hf,hn]
  exact⟨h1,h2,by omega,by omega⟩)
 have HNF:=hid' hf
 have hA:=RowL.alloc 27 w [.slice fa fn fc,.slice da dn dc,.int .i64 fm,.int .i64 fx,.int .i64 fk]
 obtain⟨R,hR⟩:∃R,R=looR fm fx fk ns ds mo:=⟨_,rfl⟩
 have HR:=hid' (show R=if z=0 then (loopsL mo ds).map Int.ofNat else [] by rw[hR,hzz];rfl)
 rw[<-hzz]at HC
 rw[<-hzz,<-hR]
 clear hR
 clear hns hcap hbig hs h hz hL hE hT hf hn hzz
 go_enter Tryz.func10,Tryz.ntmps10
 go_upto_region 1 with fail
 generalize w.alloc (.cells #[.slice fa fn fc,.slice da dn dc,.int .i64 fm,.int .i64 fx,.int .i64 fk] 27)=W at kA hA HC ⊢
 obtain⟨p,hp⟩:∃q,q=w.heap.size:=⟨_,rfl⟩
 rw[<-hp]at hA ⊢
 have HF:=hid' hA
 have HK:=hid' kA
 have HP:=hid' hp
 clear kA hA hp
 have f0:=HF.out.cell 0 (.slice fa fn fc)
 have f1:=HF.out.cell 1 (.slice da dn dc)
 have f2:=HF.out.cell 2 (.int .i64 fm)
 have f3:=HF.out.cell 3 (.int .i64 fx)
 have f4:=HF.out.cell 4 (.int .i64 fk)
 go_wp2_with fail
 refine HC.out.mono ?_
 rintro e w1 ⟨hk,rfl⟩
 have HF:=hid' (HF.out.kept hk)
 have HK:=hid' (HK.out.trans hk)
 clear hk f0 f1 f2 f3 f4 HC
 by_cases h0:z=0
 ·subst h0
  obtain⟨o1,_,o3,o4⟩:=HO.out rfl
  have HE:=hid' o1
  have HRR:=hid' (show R=(loopsL mo ds).map Int.ofNat by rw[HR.out,if_pos rfl])
  clear o1 HO HR
  have f0:=HF.out.cell 0 (.slice fa fn fc)
  have f1:=HF.out.cell 1 (.slice da dn dc)
  have f2:=HF.out.cell 2 (.int .i64 fm)
  have f3:=HF.out.cell 3 (.int .i64 fx)
  have f4:=HF.out.cell 4 (.int .i64 fk)
  go_wp2_with fail
  refine(closing_any fa fn fc da dn dc fm fx fk mo ds _ (HD.out.kept HK.out) HE.out o3 o4).mono ?_
  rintro e w2 ⟨hk,v,rfl,hv⟩
  rw[<-HRR.out]at hv
  obtain⟨ao,cap,hvs⟩:=own_shape hv
  obtain⟨n,hn⟩:∃n,n=R.length:=⟨_,rfl⟩
  rw[<-hn]at hvs
  subst hvs
  have HV:=hid' (And.intro hn (own_mono hv HK.out.size))
  have HK:=hid' (HK.out.trans hk)
  clear hk hv hn f0 f1 f2 f3 f4
  go_wp2_with fail
  go_ret2
  exact⟨HK.out,_,_,_,rfl,HV.out.1,HV.out.2⟩
 ·have b0:(z != 0)=true:=by simpa using h0
  have HRR:=hid' (show R=[] by rw[HR.out,if_neg h0])
  clear h0 HR
  go_wp2_with fail
  go_ret2
  exact⟨HK.out,none,0,0,rfl,by rw[HRR.out];rfl,by rw[HRR.out];exact World.ownsRow_nil _ _ _ _⟩
theorem TCheck_any (fa:Option Addr)(fn fc:Nat)(da:Option Addr)(dn dc:Nat)(fm fx fk:Int)(mo:Int)(ns:List (List UInt8))(ds:List DE)(w:World)(hns:RS w (.slice fa fn fc) ns)(hcap:fn<=fc)(hbig:fc<=9223372036854775807)(hs:∀x∈ns,x.length<=4611686018427387903)(h:DsR w (.slice da dn dc) ds)(hz:∀d∈ds,d.sz)(hL:Lett w)(hE:ErrV w)(hT:Tab w) :
  Calls Tryz.prog 14 #[.agg #[.slice fa fn fc,.slice da dn dc,.int .i64 fm,.int .i64 fx,.int .i64 fk],.int .i64 mo] w fun e w'=>Kept w w'/\e=.returned (.int .i64 (tchk fm fx fk ns ds mo)):=by
 have HR1:=hid' (fun (e:refT fm fx fk ns ds mo=0)=>show (floR fm fx fk ns ds mo).length=(floatsL ns.length (tied mo ds)).length/\(looR fm fx fk ns ds mo).length=(loopsL mo ds).length by
  unfold floR looR
  rw[if_pos e,if_pos e,List.length_map,List.length_map]
  exact⟨rfl,rfl⟩)
 obtain⟨z,hzz⟩:∃z,z=refT fm fx fk ns ds mo:=⟨_,rfl⟩
 have hf:fn=ns.length:=by obtain⟨_,_,e,_⟩:=hns;simp at e;exact e.2.1
 have hn:dn=ds.length:=by have:=h.1.len;rw[List.length_map]at this;exact this
 have kA:=(Kept.refl w).alloc (.cells #[.slice fa fn fc,.slice da dn dc,.int .i64 fm,.int .i64 fx,.int .i64 fk] 27)
 have HC:=hid' (refused_any fa fn fc da dn dc fm fx fk mo ns ds _ (hns.kept kA) hcap hbig hs (h.kept kA) hz (hL.kept kA) (hE.kept kA) (hT.kept kA))
 have HD:=hid' h
 have HO:=hid' (fun (e:z=0)=>show (∀d∈ds,endsB fn d.kind d.nodes=true)/\1<=fn/\fn<=1000000/\dn<=1000000 by
  obtain⟨h1,h2,h3,h4⟩:=ref_ok (hzz.symm.trans e)
  rw[hf,hn]
  exact⟨h1,h2,by omega,by omega⟩)
 have HNF:=hid' hf
 have hA:=RowL.alloc 27 w [.slice fa fn fc,.slice da dn dc,.int .i64 fm,.int .i64 fx,.int .i64 fk]
 obtain⟨R,hR⟩:∃R,R=tchk fm fx fk ns ds mo:=⟨_,rfl⟩
 obtain⟨nf,hnf⟩:∃n,n=(floR fm fx fk ns ds mo).length:=⟨_,rfl⟩
 obtain⟨nl,hnl⟩:∃n,n=(looR fm fx fk ns ds mo).length:=⟨_,rfl⟩
 have HR:=hid' (show R=if z=0 then (if nf=0 then (if nl=0 then 0 else 101) else 100) else z by rw[hR,hzz,hnf,hnl];rfl)
 rw[<-hzz]at HC HR1
 rw[<-hnf,<-hnl]at HR1
 rw[<-hR]
 clear hR hnf hnl
 clear hns hcap hbig hs h hz hL hE hT hf hn hzz
 go_enter Tryz.func14,Tryz.ntmps14
 go_upto_region 1 with fail
 generalize w.alloc (.cells #[.slice fa fn fc,.slice da dn dc,.int .i64 fm,.int .i64 fx,.int .i64 fk] 27)=W at kA hA HC ⊢
 obtain⟨p,hp⟩:∃q,q=w.heap.size:=⟨_,rfl⟩
 rw[<-hp]at hA ⊢
 have HF:=hid' hA
 have HK:=hid' kA
 have HP:=hid' hp
 clear kA hA hp
 have f0:=HF.out.cell 0 (.slice fa fn fc)
 have f1:=HF.out.cell 1 (.slice da dn dc)
 have f2:=HF.out.cell 2 (.int .i64 fm)
 have f3:=HF.out.cell 3 (.int .i64 fx)
 have f4:=HF.out.cell 4 (.int .i64 fk)
 go_wp2_with fail
 refine HC.out.mono ?_
 rintro e w1 ⟨hk,rfl⟩
 have HF:=hid' (HF.out.kept hk)
 have HK:=hid' (HK.out.trans hk)
 clear hk f0 f1 f2 f3 f4 HC
 by_cases h0:z=0
 ·subst h0
  obtain⟨o1,o2,o3,o4⟩:=HO.out rfl
  have HE:=hid' o1
  have HR2:=hid' (show R=if nf=0 then (if nl=0 then 0 else 101) else 100 by rw[HR.out,if_pos rfl])
  have HR3:=hid' (HR1.out rfl)
  clear o1 HO HR HR1
  have f0:=HF.out.cell 0 (.slice fa fn fc)
  have f1:=HF.out.cell 1 (.slice da dn dc)
  have f2:=HF.out.cell 2 (.int .i64 fm)
  have f3:=HF.out.cell 3 (.int .i64 fx)
  have f4:=HF.out.cell 4 (.int .i64 fk)
  go_wp2_with fail
  refine(floating_any fa fn fc da dn dc fm fx fk mo ds _ (HD.out.kept HK.out) HE.out o2 o3 o4).mono ?_
  rintro e w2 ⟨hk,v,rfl,hv⟩
  obtain⟨ao,cap,hvs⟩:=own_shape hv
  rw[List.length_map,HNF.out,<-HR3.out.1]at hvs
  subst hvs
  have HF:=hid' (HF.out.kept hk)
  have HK:=hid' (HK.out.trans hk)
  clear hk hv f0 f1 f2 f3 f4
  by_cases hnf:nf=0
  ·subst hnf
   have f0:=HF.out.cell 0 (.slice fa fn fc)
   have f1:=HF.out.cell 1 (.slice da dn dc)
   have f2:=HF.out.cell 2 (.int .i64 fm)
   have f3:=HF.out.cell 3 (.int .i64 fx)
   have f4:=HF.out.cell 4 (.int .i64 fk)
   go_wp2_with fail
   refine(closing_any fa fn fc da dn dc fm fx fk mo ds _ (HD.out.kept HK.out) HE.out o3 o4).mono ?_
   rintro e w3 ⟨hk,v,rfl,hv⟩
   obtain⟨ao,cap,hvs⟩:=own_shape hv
   rw[List.length_map,<-HR3.out.2]at hvs
   subst hvs
   have HK:=hid' (HK.out.trans hk)
   clear hk hv f0 f1 f2 f3 f4
   by_cases hnl:nl=0
   ·subst hnl
    go_wp2_with fail
    go_ret
    exact⟨HK.out,by rw[HR2.out];rfl⟩
   ·have hnp:(0:Int)<(nl:Int):=by omega
    have HR4:=hid' (show R=101 by rw[HR2.out];simp[hnl])
    clear hnl HR2
    go_wp2_with fail
    go_ret
    exact⟨HK.out,by rw[HR4.out];rfl⟩
  ·have hnp:(0:Int)<(nf:Int):=by omega
   have HR4:=hid' (show R=100 by rw[HR2.out,if_neg hnf])
   clear hnf HR2
   go_wp2_with fail
   go_ret
   exact⟨HK.out,by rw[HR4.out];rfl⟩
 ·have b0:(z != 0)=true:=by simpa using h0
  have HR4:=hid' (show R=z by rw[HR.out,if_neg h0])
  clear h0 HR
  go_wp2_with fail
  go_ret
  exact⟨HK.out,by rw[HR4.out];rfl⟩
open X (RS OwnS strs)
def Coarse (f g:Nat->Nat):Prop:=∀x y,f x=f y->g x=g y
theorem Coarse.refl (f:Nat->Nat):Coarse f f:=fun _ _ h=>h
theorem Coarse.join {f g:Nat->Nat}(h:Coarse f g)(a b:Nat):Coarse (joinH f a b) (joinH g a b):=by
 intro x y e
 unfold joinH at e ⊢
 by_cases hx:f x=f b
 ·rw[if_pos hx]at e
  rw[if_pos (h x b hx)]
  by_cases hy:f y=f b
  ·rw[if_pos (h y b hy)]
  ·rw[if_neg hy]at e
   have:=h a y e
   split
   ·rfl
   ·exact this
 ·rw[if_neg hx]at e
  by_cases hy:f y=f b
  ·rw[if_pos hy]at e
   have:=h x a e
   rw[if_pos (h y b hy)]
   split
   ·rfl
   ·exact this
  ·rw[if_neg hy]at e
   rw[h x y e]
theorem Coarse.more {f g:Nat->Nat}(h:Coarse f g)(a b:Nat):Coarse f (joinH g a b):=by
 intro x y e
 unfold joinH
 rw[h x y e]
open X (RS OwnS strs)
def DE.bare (d:DE):DE:=⟨d.kind,d.name,d.nodes,none,0,d.ref,d.vm,d.vx,d.wk,d.wv,none,0,d.ws,none,0,d.md,none,0,none,0⟩
theorem tied_bare (mo:Int)(ds:List DE):tied mo (ds.map DE.bare)=tied mo ds:=by
 unfold tied
 rw[List.foldl_map]
 rfl
theorem held_bare (mo:Int)(ds:List DE):held mo (ds.map DE.bare)=held mo ds:=by
 unfold held
 rw[List.foldl_map]
 rfl
theorem loops_bare (mo:Int)(ds:List DE):loopsL mo (ds.map DE.bare)=loopsL mo ds:=by
 unfold loopsL
 rw[List.length_map]
 refine List.filter_congr fun i _=>?_
 rw[List.getElem?_map,<-List.map_take,held_bare]
 cases ds[i]? <;> rfl
theorem kinds_bare (ds:List DE):(ds.map DE.bare).map DE.kind=ds.map DE.kind:=by
 rw[List.map_map]
 rfl
theorem unk_bare (fn:Nat)(ds:List DE):unkN fn (ds.map DE.bare)=unkN fn ds:=by
 unfold unkN
 rw[List.filter_map,List.length_map]
 rfl
end V
end Go.Proofs.YtdjhmgmjiglcbaaGreatDoor

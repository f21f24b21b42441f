/- flat.Check. topo's kinds, and what it refuses. topo.alone: so many nodes, none joined to another. topo's groups: head, joined, join. What topo.floating tells: the ties of all of the devices. topo.floating. topo.closing. topo.Floats, Loops, Check. What floats in Tran floats in Op; what closes a loop in Tran closes one in Op: the mathematics. shuntlaw10.awake. TopoModes' walk. A flat circuit that came in as an argument: what its reading gives the walks; how long its lists may be. -/
import Derived.Test.YtcggopolokekkaaGreatDoorGbh
import Derived.Test.YtcggopolokekkaaGreatDoorGao
import Derived.Test.YtcggopolokekkaaGreatDoorGbf
import Derived.Test.YtcggopolokekkaaGreatDoorGbg
import Derived.Deep.Slices
namespace Go.Proofs.YtcggopolokekkaaGreatDoor
open Go.RowKit
namespace V
open Q (hid' Lett ErrV Tab)
open X (RS OwnS strs)
def chkF (fm fx fk:Int) (ns:List (List UInt8)) (ds:List DE):Int :=
 if (fsetB fm fx fk && (nodesB ns && fdevsB ns.length fm fx fk ds)) = false then 90 else if 48 < unkN ns.length ds then 5 else 0
theorem chkF_bad {fm fx fk:Int} {ns:List (List UInt8)} {ds:List DE} (h:(fsetB fm fx fk && (nodesB ns && fdevsB ns.length fm fx fk ds)) = false):chkF fm fx fk ns ds = 90:=if_pos h
theorem nodes_len {ns:List (List UInt8)} (h:nodesB ns = true):ns.length≤1000000:=by
 unfold nodesB at h
 rw [Bool.and_eq_true,decide_eq_true_eq] at h
 omega
theorem fdevs_len {fn:Nat} {fm fx fk:Int} {ds:List DE} (h:fdevsB fn fm fx fk ds = true):ds.length≤1000000:=by
 unfold fdevsB at h
 rw [Bool.and_eq_true,decide_eq_true_eq] at h
 omega
set_option maxRecDepth 100000 in
set_option maxHeartbeats 16000000 in
theorem fcheck_any (fa:Option Addr) (fn fc:Nat) (da:Option Addr) (dn dc:Nat) (fm fx fk:Int) (ns:List (List UInt8)) (ds:List DE) (w:World) (hns:RS w (.slice fa fn fc) ns) (hcap:fn≤fc) (hbig:fc≤9223372036854775807) (hs:∀ x ∈ ns,x.length≤4611686018427387903) (h:DsR w (.slice da dn dc) ds) (hz:∀ d ∈ ds,d.sz) (hL:Lett w) (hE:ErrV w) (hT:Tab w) :
  Calls Tryz.prog 13 #[.agg #[.slice fa fn fc,.slice da dn dc,.int .i64 fm,.int .i64 fx,.int .i64 fk]] w fun e w' => Kept w w'∧e = .returned (.int .i64 (chkF fm fx fk ns ds)):=by
 have hn:dn = ds.length:=by have:=h.1.len; rw [List.length_map] at this; exact this
 have hf:fn = ns.length:=by obtain ⟨_,_,e,_⟩:=hns; simp at e; exact e.2.1
 have HC:=hid' (show chkF fm fx fk ns ds = if (fsetB fm fx fk && (nodesB ns && fdevsB fn fm fx fk ds)) = false then 90 else if 48 < unkN fn ds then 5 else 0 by rw [hf]; rfl)
 have HB1:=hid' (fun (e:nodesB ns = true) => show fn≤1000000 by rw [hf]; exact nodes_len e)
 have HB2:=hid' (fun (e:fdevsB fn fm fx fk ds = true) => show dn≤1000000 by rw [hn]; exact fdevs_len e)
 have HL:=hid' (And.intro h (And.intro hz (And.intro hns hs)))
 have HCP:=hid' (And.intro hcap hbig)
 have HLE:=hid' (And.intro hL (And.intro hE hT))
 clear h hn hf hz hns hs hcap hbig hL hE hT
 have kA:=(Kept.refl w).alloc (.cells #[.slice fa fn fc,.slice da dn dc,.int .i64 fm,.int .i64 fx,.int .i64 fk] 27)
 have hA:=RowL.alloc 27 w [.slice fa fn fc,.slice da dn dc,.int .i64 fm,.int .i64 fx,.int .i64 fk]
 go_enter Tryz.func13,Tryz.ntmps13
 go_upto_region 1 with fail
 generalize w.alloc (.cells #[.slice fa fn fc,.slice da dn dc,.int .i64 fm,.int .i64 fx,.int .i64 fk] 27) = W at kA hA ⊢
 obtain ⟨p,hp⟩:∃ q,q = w.heap.size:=⟨_,rfl⟩
 rw [← hp] at hA ⊢
 have HF:=hid' hA
 have HK:=hid' kA
 clear kA hA hp
 have f0:=HF.out.cell 0 (.slice fa fn fc)
 have f1:=HF.out.cell 1 (.slice da dn dc)
 have f2:=HF.out.cell 2 (.int .i64 fm)
 have f3:=HF.out.cell 3 (.int .i64 fx)
 have f4:=HF.out.cell 4 (.int .i64 fk)
 go_wp2_with fail
 refine (fset_any fa fn fc da dn dc fm fx fk _ (HLE.out.1.kept HK.out) (HLE.out.2.1.kept HK.out) (HLE.out.2.2.kept HK.out)).mono ?_
 rintro e w1 ⟨hk,rfl⟩
 have HF:=hid' (HF.out.kept hk)
 have HK:=hid' (HK.out.trans hk)
 clear hk f0 f1 f2 f3 f4
 have f0:=HF.out.cell 0 (.slice fa fn fc)
 have f1:=HF.out.cell 1 (.slice da dn dc)
 have f2:=HF.out.cell 2 (.int .i64 fm)
 have f3:=HF.out.cell 3 (.int .i64 fx)
 have f4:=HF.out.cell 4 (.int .i64 fk)
 cases hb1:fsetB fm fx fk with
 | false =>
  have HR:=hid' (show chkF fm fx fk ns ds = 90 by rw [HC.out,hb1]; rfl)
  clear hb1
  go_wp2_with fail
  go_ret
  exact ⟨HK.out,by rw [HR.out]; rfl⟩
 | true =>
 --%A
 have HC:=hid' (show chkF fm fx fk ns ds = if (nodesB ns && fdevsB fn fm fx fk ds) = false then 90 else if 48 < unkN fn ds then 5 else 0 by rw [HC.out,hb1,Bool.true_and])
 clear hb1
 go_wp2_with fail
 refine (rightNodes_any fa fn fc ns _ (HL.out.2.2.1.kept HK.out) HCP.out.1 HCP.out.2 HL.out.2.2.2).mono ?_
 rintro e w2 ⟨hk,rfl⟩
 have HF:=hid' (HF.out.kept hk)
 have HK:=hid' (HK.out.trans hk)
 clear hk f0 f1 f2 f3 f4
 have f0:=HF.out.cell 0 (.slice fa fn fc)
 have f1:=HF.out.cell 1 (.slice da dn dc)
 have f2:=HF.out.cell 2 (.int .i64 fm)
 have f3:=HF.out.cell 3 (.int .i64 fx)
 have f4:=HF.out.cell 4 (.int .i64 fk)
 cases hb2:nodesB ns with
 | false =>
  have HR:=hid' (show chkF fm fx fk ns ds = 90 by rw [HC.out,hb2]; rfl)
  clear hb2
  go_wp2_with fail
  go_ret
  exact ⟨HK.out,by rw [HR.out]; rfl⟩
 | true =>
 --%B
 have HC:=hid' (show chkF fm fx fk ns ds = if fdevsB fn fm fx fk ds = false then 90 else if 48 < unkN fn ds then 5 else 0 by rw [HC.out,hb2,Bool.true_and])
 have HB1:=hid' (HB1.out hb2)
 clear hb2
 go_wp2_with fail
 refine (rightDevs_any fa fn fc da dn dc fm fx fk ds _ (HL.out.1.kept HK.out) HL.out.2.1 (HLE.out.1.kept HK.out) (HLE.out.2.1.kept HK.out) (HLE.out.2.2.kept HK.out)).mono ?_
 rintro e w3 ⟨hk,rfl⟩
 have HF:=hid' (HF.out.kept hk)
 have HK:=hid' (HK.out.trans hk)
 clear hk f0 f1 f2 f3 f4
 have f0:=HF.out.cell 0 (.slice fa fn fc)
 have f1:=HF.out.cell 1 (.slice da dn dc)
 have f2:=HF.out.cell 2 (.int .i64 fm)
 have f3:=HF.out.cell 3 (.int .i64 fx)
 have f4:=HF.out.cell 4 (.int .i64 fk)
 cases hb3:fdevsB fn fm fx fk ds with
 | false =>
  have HR:=hid' (show chkF fm fx fk ns ds = 90 by rw [HC.out,hb3]; rfl)
  clear hb3
  go_wp2_with fail
  go_ret
  exact ⟨HK.out,by rw [HR.out]; rfl⟩
 | true =>
 --%C
 have HC:=hid' (show chkF fm fx fk ns ds = if 48 < unkN fn ds then 5 else 0 by rw [HC.out,hb3]; rfl)
 have HB2:=hid' (HB2.out hb3)
 clear hb3
 go_wp2_with fail
 refine (unknowns_any fa fn fc da dn dc fm fx fk ds _ (HL.out.1.kept HK.out) HB2.out HB1.out).mono ?_
 rintro e w4 ⟨hk,u,rfl,_⟩
 have HF:=hid' (HF.out.kept hk)
 have HK:=hid' (HK.out.trans hk)
 clear hk f0 f1 f2 f3 f4
 have f0:=HF.out.cell 0 (.slice fa fn fc)
 have f1:=HF.out.cell 1 (.slice da dn dc)
 have f2:=HF.out.cell 2 (.int .i64 fm)
 have f3:=HF.out.cell 3 (.int .i64 fx)
 have f4:=HF.out.cell 4 (.int .i64 fk)
 generalize unkN fn ds = z at HC ⊢
 by_cases h48:48 < z
 ·
  have HR:=hid' (show chkF fm fx fk ns ds = 5 by rw [HC.out,if_pos h48])
  go_wp2_with fail
  go_ret
  exact ⟨HK.out,by rw [HR.out]; rfl⟩
 ·
  have HR:=hid' (show chkF fm fx fk ns ds = 0 by rw [HC.out,if_neg h48])
  go_wp2_with fail
  go_ret
  exact ⟨HK.out,by rw [HR.out]; rfl⟩
end V
end Go.Proofs.YtcggopolokekkaaGreatDoor

namespace Go.Proofs.YtcggopolokekkaaGreatDoor
open Go.RowKit
namespace V
open Q (hid' Lett ErrV Tab)
open X (RS OwnS strs)
def tieAB (k mo:Int):Bool:=if k ∈ ([114,108,118,101,104,116,100,115]:List Int) then true else if k = 99 then decide (mo = 2) else false
def tieCD (k:Int):Bool:=decide (k ∈ ([101,103,116]:List Int))
def holdAB (k mo:Int):Bool:=if k ∈ ([118]:List Int) then true else if k = 108 then decide (mo = 1) else false
set_option maxRecDepth 100000 in
set_option maxHeartbeats 4000000 in
theorem tieAB_any (k mo:Int) (w:World):Calls Tryz.prog 15 #[.int .u8 k,.int .i64 mo] w fun e w' => e = .returned (.bool (tieAB k mo))∧w' = w:=by
 by_cases h0:k = 114
 ·
  subst h0
  go_enter Tryz.func15,Tryz.ntmps15
  go_wp2_with fail
  go_ret
  exact ⟨rfl,rfl⟩
 have b0:(k == 114) = false:=by simpa using h0
 by_cases h1:k = 108
 ·
  subst h1
  go_enter Tryz.func15,Tryz.ntmps15
  go_wp2_with fail
  go_ret
  exact ⟨rfl,rfl⟩
 have b1:(k == 108) = false:=by simpa using h1
 by_cases h2:k = 118
 ·
  subst h2
  go_enter Tryz.func15,Tryz.ntmps15
  go_wp2_with fail
  go_ret
  exact ⟨rfl,rfl⟩
 have b2:(k == 118) = false:=by simpa using h2
 by_cases h3:k = 101
 ·
  subst h3
  go_enter Tryz.func15,Tryz.ntmps15
  go_wp2_with fail
  go_ret
  exact ⟨rfl,rfl⟩
 have b3:(k == 101) = false:=by simpa using h3
 by_cases h4:k = 104
 ·
  subst h4
  go_enter Tryz.func15,Tryz.ntmps15
  go_wp2_with fail
  go_ret
  exact ⟨rfl,rfl⟩
 have b4:(k == 104) = false:=by simpa using h4
 by_cases h5:k = 116
 ·
  subst h5
  go_enter Tryz.func15,Tryz.ntmps15
  go_wp2_with fail
  go_ret
  exact ⟨rfl,rfl⟩
 have b5:(k == 116) = false:=by simpa using h5
 by_cases h6:k = 100
 ·
  subst h6
  go_enter Tryz.func15,Tryz.ntmps15
  go_wp2_with fail
  go_ret
  exact ⟨rfl,rfl⟩
 have b6:(k == 100) = false:=by simpa using h6
 by_cases h7:k = 115
 ·
  subst h7
  go_enter Tryz.func15,Tryz.ntmps15
  go_wp2_with fail
  go_ret
  exact ⟨rfl,rfl⟩
 have b7:(k == 115) = false:=by simpa using h7
 by_cases h8:k = 99
 ·
  subst h8
  have e:tieAB 99 mo = decide (mo = 2):=rfl
  rw [e]
  clear e
  by_cases hm:mo = 2
  ·
   subst hm
   go_enter Tryz.func15,Tryz.ntmps15
   go_wp2_with fail
   go_ret
   exact ⟨rfl,rfl⟩
  ·
   have bm:(mo == 2) = false:=by simpa using hm
   rw [decide_eq_false hm]
   go_enter Tryz.func15,Tryz.ntmps15
   go_wp2_with fail
   go_ret
   exact ⟨rfl,rfl⟩
 have b8:(k == 99) = false:=by simpa using h8
 have e:tieAB k mo = false:=by
  unfold tieAB
  rw [if_neg (by simp only [List.mem_cons,List.not_mem_nil,or_false]; omega),if_neg h8]
 rw [e]
 clear e
 go_enter Tryz.func15,Tryz.ntmps15
 go_wp2_with fail
 go_ret
 exact ⟨rfl,rfl⟩
set_option maxRecDepth 100000 in
set_option maxHeartbeats 4000000 in
theorem tieCD_any (k:Int) (w:World):Calls Tryz.prog 17 #[.int .u8 k] w fun e w' => e = .returned (.bool (tieCD k))∧w' = w:=by
 by_cases h0:k = 101
 ·
  subst h0
  go_enter Tryz.func17,Tryz.ntmps17
  go_wp2_with fail
  go_ret
  exact ⟨rfl,rfl⟩
 have b0:(k == 101) = false:=by simpa using h0
 by_cases h1:k = 103
 ·
  subst h1
  go_enter Tryz.func17,Tryz.ntmps17
  go_wp2_with fail
  go_ret
  exact ⟨rfl,rfl⟩
 have b1:(k == 103) = false:=by simpa using h1
 by_cases h2:k = 116
 ·
  subst h2
  go_enter Tryz.func17,Tryz.ntmps17
  go_wp2_with fail
  go_ret
  exact ⟨rfl,rfl⟩
 have b2:(k == 116) = false:=by simpa using h2
 have e:tieCD k = false:=by
  unfold tieCD
  exact decide_eq_false (by simp only [List.mem_cons,List.not_mem_nil,or_false]; omega)
 rw [e]
 clear e
 go_enter Tryz.func17,Tryz.ntmps17
 go_wp2_with fail
 go_ret
 exact ⟨rfl,rfl⟩
set_option maxRecDepth 100000 in
set_option maxHeartbeats 4000000 in
theorem holdAB_any (k mo:Int) (w:World):Calls Tryz.prog 19 #[.int .u8 k,.int .i64 mo] w fun e w' => e = .returned (.bool (holdAB k mo))∧w' = w:=by
 by_cases h0:k = 118
 ·
  subst h0
  go_enter Tryz.func19,Tryz.ntmps19
  go_wp2_with fail
  go_ret
  exact ⟨rfl,rfl⟩
 have b0:(k == 118) = false:=by simpa using h0
 by_cases h1:k = 108
 ·
  subst h1
  have e:holdAB 108 mo = decide (mo = 1):=rfl
  rw [e]
  clear e
  by_cases hm:mo = 1
  ·
   subst hm
   go_enter Tryz.func19,Tryz.ntmps19
   go_wp2_with fail
   go_ret
   exact ⟨rfl,rfl⟩
  ·
   have bm:(mo == 1) = false:=by simpa using hm
   rw [decide_eq_false hm]
   go_enter Tryz.func19,Tryz.ntmps19
   go_wp2_with fail
   go_ret
   exact ⟨rfl,rfl⟩
 have b1:(k == 108) = false:=by simpa using h1
 have e:holdAB k mo = false:=by
  unfold holdAB
  rw [if_neg (by simp only [List.mem_cons,List.not_mem_nil,or_false]; omega),if_neg h1]
 rw [e]
 clear e
 go_enter Tryz.func19,Tryz.ntmps19
 go_wp2_with fail
 go_ret
 exact ⟨rfl,rfl⟩
def refT (fm fx fk:Int) (ns:List (List UInt8)) (ds:List DE) (mo:Int):Int :=
 if chkF fm fx fk ns ds = 0 then (if mo = 1 ∨ mo = 2 then 0 else 110) else chkF fm fx fk ns ds
set_option maxRecDepth 100000 in
set_option maxHeartbeats 8000000 in
theorem refused_any (fa:Option Addr) (fn fc:Nat) (da:Option Addr) (dn dc:Nat) (fm fx fk:Int) (mo:Int) (ns:List (List UInt8)) (ds:List DE) (w:World) (hns:RS w (.slice fa fn fc) ns) (hcap:fn≤fc) (hbig:fc≤9223372036854775807) (hs:∀ x ∈ ns,x.length≤4611686018427387903) (h:DsR w (.slice da dn dc) ds) (hz:∀ d ∈ ds,d.sz) (hL:Lett w) (hE:ErrV w) (hT:Tab w) :
  Calls Tryz.prog 10 #[.agg #[.slice fa fn fc,.slice da dn dc,.int .i64 fm,.int .i64 fx,.int .i64 fk],.int .i64 mo] w fun e w' => Kept w w'∧e = .returned (.int .i64 (refT fm fx fk ns ds mo)):=by
 have kA:=(Kept.refl w).alloc (.cells #[.slice fa fn fc,.slice da dn dc,.int .i64 fm,.int .i64 fx,.int .i64 fk] 27)
 have HC:=hid' (fcheck_any fa fn fc da dn dc fm fx fk ns ds _ (hns.kept kA) hcap hbig hs (h.kept kA) hz (hL.kept kA) (hE.kept kA) (hT.kept kA))
 have HR:=hid' (show refT fm fx fk ns ds mo = if chkF fm fx fk ns ds = 0 then (if mo = 1 ∨ mo = 2 then 0 else 110) else chkF fm fx fk ns ds from rfl)
 have HK:=hid' kA
 clear hns hcap hbig hs h hz hL hE hT kA
 go_enter Tryz.func10,Tryz.ntmps10
 go_wp2_with fail
 refine HC.out.mono ?_
 rintro e w1 ⟨hk,rfl⟩
 have HK:=hid' (HK.out.trans hk)
 clear hk HC
 generalize chkF fm fx fk ns ds = z at HR ⊢
 by_cases h0:z = 0
 ·
  subst h0
  have HR2:=hid' (show refT fm fx fk ns ds mo = if mo = 1 ∨ mo = 2 then 0 else 110 by rw [HR.out,if_pos rfl])
  clear HR
  by_cases h1:mo = 1
  ·
   subst h1
   go_wp2_with fail
   go_ret
   exact ⟨HK.out,by rw [HR2.out]; rfl⟩
  ·
   have b1:(mo != 1) = true:=by simpa using h1
   by_cases h2:mo = 2
   ·
    subst h2
    go_wp2_with fail
    go_ret
    exact ⟨HK.out,by rw [HR2.out]; rfl⟩
   ·
    have b2:(mo != 2) = true:=by simpa using h2
    have HR3:=hid' (show refT fm fx fk ns ds mo = 110 by rw [HR2.out,if_neg (by omega)])
    clear HR2
    go_wp2_with fail
    go_ret
    exact ⟨HK.out,by rw [HR3.out]; rfl⟩
 ·
  have b0:(z != 0) = true:=by simpa using h0
  have HR2:=hid' (show refT fm fx fk ns ds mo = z by rw [HR.out,if_neg h0])
  clear HR
  go_wp2_with fail
  go_ret
  exact ⟨HK.out,by rw [HR2.out]; rfl⟩
end V
end Go.Proofs.YtcggopolokekkaaGreatDoor

namespace Go.Proofs.YtcggopolokekkaaGreatDoor
open Go.RowKit
namespace V
open Q (hid' Lett ErrV Tab)
open X (RS OwnS strs)
def rowG (i n:Nat):List Value:=(List.range i).map (fun (j:Nat) => Value.int .i64 (j:Int)) ++ List.replicate (n - i) (.int .i64 0)
theorem rowG_at {i n:Nat} (h:i < n):(rowG i n)[i]? = some (.int .i64 0):=by
 unfold rowG
 rw [List.getElem?_append_right (by simp),List.length_map,List.length_range,Nat.sub_self,List.getElem?_replicate,if_pos (by omega)]
theorem rowG_set {i n:Nat} (h:i < n):(rowG i n).set i (.int .i64 (i:Int)) = rowG (i + 1) n:=by
 unfold rowG
 obtain ⟨m,hm⟩:∃ m,n - i = m + 1:=⟨n - i - 1,by omega⟩
 rw [show n - (i + 1) = m by omega,hm,List.set_append_right _ _ (by simp),List.length_map,List.length_range,Nat.sub_self,List.replicate_succ,List.set_cons_zero,List.range_succ,List.map_append]
 simp
theorem rowG_full (n:Nat):rowG n n = (List.range n).map (fun (j:Nat) => Value.int .i64 (j:Int)):=by
 unfold rowG
 rw [Nat.sub_self]
 simp
theorem made_ints (n:Nat):madeCells (Value.int .i64 0).cells (n * 1) = (rowG 0 n).toArray:=by
 apply Array.ext
 ·
  simp [madeCells,rowG]
 ·
  intro i h1 h2
  simp [madeCells,rowG,Value.cells]
  rw [Nat.mod_one]
  rfl
theorem und_groups:Tryz.prog.underlying 45 = some (.slice 3):=by kernel_rfl
set_option maxRecDepth 100000 in
set_option maxHeartbeats 8000000 in
theorem talone_any (n:Nat) (w:World) (hb:n≤1000000) :
  Calls Tryz.prog 14 #[.int .i64 (n:Int)] w fun e w' => Kept w w'∧∃ g,e = .returned (.slice (some ⟨g,0,none⟩) n n)∧RowL 3 w' g ((List.range n).map fun (j:Nat) => Value.int .i64 (j:Int))∧w.heap.size≤g:=by
 obtain ⟨i0,hi,hz0,hz1,hz2⟩:=info_parts info_i64
 have hmk:∀ u:World,(Instr.makeSlice 45 (.int .i64 (n:Int)) (.int .i64 (n:Int))).run Tryz.prog u = .ok (.slice (some ⟨u.heap.size,0,none⟩) n n) (u.alloc (.cells (rowG 0 n).toArray 3)):=fun u => by
  have h:=run_make (P:=Tryz.prog) u 45 3 i0 (.int .i64 0) und_groups hi hz0 .i64 .i64 (n:Int) (n:Int) (by omega) (Int.le_refl _) (by rw [hz2]; omega) (by omega)
  rw [Int.toNat_natCast,hz1,made_ints] at h
  exact h
 have kA:=(Kept.refl w).alloc (.cells (rowG 0 n).toArray 3)
 have hA:=RowL.alloc 3 w (rowG 0 n)
 go_enter Tryz.func14,Tryz.ntmps14
 go_wp2_with fail
 --%A
 generalize w.alloc (.cells (rowG 0 n).toArray 3) = W at kA hA ⊢
 obtain ⟨g,hg⟩:∃ q,q = w.heap.size:=⟨_,rfl⟩
 rw [← hg] at hA ⊢
 have HI:=hid' (And.intro kA hA)
 have HG:=hid' (show w.heap.size≤g by rw [hg]; exact Nat.le_refl _)
 clear kA hA hg hmk
 go_loopw [9] (fun v9 wr => ∃ (i:Nat),i≤n∧v9 = .int .i64 (i:Int)∧Hid (Kept w wr∧RowL 3 wr g (rowG i n))) (fun v9 _ => n - (intOf v9).toNat)
 case atStart => exact ⟨0,Nat.zero_le _,rfl,HI.out.1,HI.out.2⟩
 case round =>
  obtain ⟨i,hil,rfl,H⟩:=hrel
  clear HI
  by_cases hit:i < n
  ·
   have hii:(i:Int) < (n:Int):=by omega
   have hi0:(0:Int)≤(i:Int):=by omega
   have c0:=H.out.2.cell i _ (rowG_at hit)
   have cz:=H.out.2.fz
   have HN:=hid' (And.intro (H.out.1.setCell (p:=⟨g,i,none⟩) HG.out (.int .i64 (i:Int))) (H.out.2.set i (.int .i64 (i:Int))))
   rw [rowG_set hit] at HN
   go_wp2_with fail
   go_roundw
   case rel => exact ⟨i + 1,by omega,by go_num,HN.out⟩
   case measure => show n - ((i:Int) + 1).toNat < n - (i:Int).toNat; omega
  ·
   have hii:¬ (i:Int) < (n:Int):=by omega
   obtain rfl:i = n:=by omega
   have HN:=hid' H.out
   rw [rowG_full] at HN
   go_wp2_with fail
   go_ret
   exact ⟨HN.out.1,g,rfl,HN.out.2,HG.out⟩
end V
end Go.Proofs.YtcggopolokekkaaGreatDoor

namespace Go.Proofs.YtcggopolokekkaaGreatDoor
open Go.RowKit
namespace V
open Q (hid' Lett ErrV Tab)
open X (RS OwnS strs)
structure Gr (L:List Nat) (hd D:Nat→Nat):Prop where
 lt:∀ x,x < L.length→hd x < L.length
 fix:∀ x,x < L.length→L.getD (hd x) 0 = hd x
 stop:∀ x,x < L.length→L.getD x 0 = x→hd x = x
 go:∀ x,x < L.length→L.getD x 0 ≠ x→L.getD x 0 < L.length∧hd (L.getD x 0) = hd x∧D (L.getD x 0) < D x
def grow (L:List Nat):List Value:=L.map fun (j:Nat) => Value.int .i64 (j:Int)
def joinH (hd:Nat→Nat) (a b:Nat):Nat→Nat:=fun x => if hd x = hd b then hd a else hd x
theorem Gr.hh {L:List Nat} {hd D:Nat→Nat} (h:Gr L hd D) {x:Nat} (hx:x < L.length):hd (hd x) = hd x:=h.stop _ (h.lt x hx) (h.fix x hx)
theorem getD_set (L:List Nat) (i x v:Nat) (hi:i < L.length):(L.set i v).getD x 0 = if x = i then v else L.getD x 0:=by
 rw [List.getD_eq_getElem?_getD,List.getD_eq_getElem?_getD,List.getElem?_set]
 by_cases e:i = x
 ·
  subst e
  rw [if_pos rfl,if_pos hi,if_pos rfl]
  rfl
 ·
  rw [if_neg e,if_neg (fun h => e h.symm)]
theorem Gr.join {L:List Nat} {hd D:Nat→Nat} (h:Gr L hd D) {a b:Nat} (ha:a < L.length) (hb:b < L.length) :
  Gr (L.set (hd b) (hd a)) (joinH hd a b) (fun x => if hd x = hd b then D x + D (hd a) + 1 else D x):=by
 have hB:=h.lt b hb
 have hA:=h.lt a ha
 have hAA:=h.hh ha
 have hBB:=h.hh hb
 have hj:joinH hd a b (hd a) = hd a:=by
  unfold joinH
  rw [hAA]
  split <;> rfl
 refine ⟨fun x hx => ?_,fun x hx => ?_,fun x hx hs => ?_,fun x hx hs => ?_⟩
 ·
  rw [List.length_set] at hx ⊢
  unfold joinH
  split
  ·
   exact hA
  ·
   exact h.lt x hx
 ·
  rw [List.length_set] at hx
  rw [getD_set _ _ _ _ hB]
  unfold joinH
  by_cases e:hd x = hd b
  ·
   rw [if_pos e]
   by_cases e2:hd a = hd b
   ·
    rw [if_pos e2]
   ·
    rw [if_neg e2,h.fix a ha]
  ·
   rw [if_neg e,if_neg e,h.fix x hx]
 ·
  rw [List.length_set] at hx
  rw [getD_set _ _ _ _ hB] at hs
  unfold joinH
  by_cases e:x = hd b
  ·
   rw [if_pos e] at hs
   rw [if_pos (by rw [e,hBB]),hs]
  ·
   rw [if_neg e] at hs
   have h1:=h.stop x hx hs
   rw [if_neg (by rw [h1]; exact e),h1]
 ·
  rw [List.length_set] at hx ⊢
  rw [getD_set _ _ _ _ hB] at hs ⊢
  by_cases e:x = hd b
  ·
   rw [if_pos e] at hs ⊢
   have hne:hd a ≠ hd b:=fun h9 => hs (by rw [h9,e])
   refine ⟨hA,?_,?_⟩
   ·
    rw [hj]
    unfold joinH
    rw [if_pos (by rw [e,hBB])]
   ·
    show (if hd (hd a) = hd b then _ else _) < (if hd x = hd b then _ else _)
    rw [hAA,if_neg hne,if_pos (by rw [e,hBB])]
    omega
  ·
   rw [if_neg e] at hs ⊢
   obtain ⟨h1,h2,h3⟩:=h.go x hx hs
   refine ⟨h1,?_,?_⟩
   ·
    unfold joinH
    rw [h2]
   ·
    show (if hd (L.getD x 0) = hd b then _ else _) < (if hd x = hd b then _ else _)
    rw [h2]
    split <;> omega
theorem Gr.alone (n:Nat):Gr (List.range n) (fun x => x) (fun _ => 0):=by
 have e:∀ x,x < n→(List.range n).getD x 0 = x:=fun x hx => by rw [List.getD_eq_getElem?_getD,List.getElem?_range hx]; rfl
 refine ⟨fun x hx => hx,fun x hx => e x (by simpa using hx),fun x _ _ => rfl,fun x hx hs => absurd (e x (by simpa using hx)) hs⟩
theorem grow_at {L:List Nat} {x:Nat} (h:x < L.length):(grow L)[x]? = some (.int .i64 ((L.getD x 0:Nat):Int)):=by
 unfold grow
 rw [List.getElem?_map,List.getD_eq_getElem?_getD,List.getElem?_eq_getElem h]
 rfl
set_option maxRecDepth 100000 in
set_option maxHeartbeats 8000000 in
theorem head_any (g n c x:Nat) (L:List Nat) (hd D:Nat→Nat) (w:World) (hG:Gr L hd D) (hn:n = L.length) (hx:x < n) (hr:RowL 3 w g (grow L)) :
  Calls Tryz.prog 24 #[.slice (some ⟨g,0,none⟩) n c,.int .i64 (x:Int)] w fun e w' => e = .returned (.int .i64 ((hd x:Nat):Int))∧w' = w:=by
 have HG:=hid' hG
 have HN:=hid' hn
 have HR:=hid' hr
 clear hG hn hr
 obtain ⟨z,hz⟩:∃ z,z = hd x:=⟨_,rfl⟩
 rw [← hz]
 have HZ:=hid' hz
 clear hz
 go_enter Tryz.func24,Tryz.ntmps24
 go_wp2_with fail
 --%A
 go_loopw [1] (fun v1 wr => ∃ (y:Nat),y < n∧v1 = .int .i64 (y:Int)∧wr = w∧Hid (hd y = z)) (fun v1 _ => D (intOf v1).toNat)
 case atStart => exact ⟨x,hx,rfl,rfl,HZ.out.symm⟩
 case round =>
  obtain ⟨y,hy,rfl,rfl,H⟩:=hrel
  have hyL:y < L.length:=by have:=HN.out; omega
  have hi0:(0:Int)≤(y:Int):=by omega
  have hii:(y:Int) < (n:Int):=by omega
  have c0:=HR.out.cell y _ (grow_at hyL)
  have HGO:=hid' (HG.out.go y hyL)
  have HST:=hid' (HG.out.stop y hyL)
  generalize L.getD y 0 = t at c0 HGO HST
  by_cases e:t = y
  ·
   subst e
   have HE:=hid' ((HST.out rfl).symm.trans H.out)
   go_wp2_with fail
   go_ret
   exact ⟨by rw [← HE.out]; rfl,rfl⟩
  ·
   have b0:((t:Int) != (y:Int)) = true:=by simp; omega
   have HGO:=hid' (HGO.out e)
   go_wp2_with fail
   go_roundw
   case rel => exact ⟨t,by have:=HGO.out.1; have:=HN.out; omega,rfl,by first | rfl | trivial,HGO.out.2.1.trans H.out⟩
   case measure => exact HGO.out.2.2
theorem joined_any (g n c a b:Nat) (L:List Nat) (hd D:Nat→Nat) (w:World) (hG:Gr L hd D) (hn:n = L.length) (ha:a < n) (hb:b < n) (hr:RowL 3 w g (grow L)) :
  Calls Tryz.prog 18 #[.slice (some ⟨g,0,none⟩) n c,.int .i64 (a:Int),.int .i64 (b:Int)] w fun e w' => e = .returned (.bool (decide (hd a = hd b)))∧w' = w:=by
 have hA:=head_any g n c a L hd D w hG hn ha hr
 have hB:=head_any g n c b L hd D w hG hn hb hr
 clear hG hn hr
 generalize hd a = x at hA ⊢
 generalize hd b = y at hB ⊢
 go_enter Tryz.func18,Tryz.ntmps18
 go_wp2_with fail
 refine hA.mono ?_
 rintro e w1 ⟨rfl,rfl⟩
 go_wp2_with fail
 refine hB.mono ?_
 rintro e w2 ⟨rfl,rfl⟩
 go_wp2_with fail
 go_ret
 refine ⟨?_,rfl⟩
 by_cases e:x = y
 ·
  subst e
  simp
 ·
  have b0:((x:Int) == (y:Int)) = false:=by simp; omega
  simp [e,b0]
theorem grow_set (L:List Nat) (i v:Nat):(grow L).set i (.int .i64 (v:Int)) = grow (L.set i v):=by
 unfold grow
 rw [List.map_set]
theorem join_any (g n c a b:Nat) (L:List Nat) (hd D:Nat→Nat) (w:World) (hG:Gr L hd D) (hn:n = L.length) (ha:a < n) (hb:b < n) (hr:RowL 3 w g (grow L)) :
  Calls Tryz.prog 16 #[.slice (some ⟨g,0,none⟩) n c,.int .i64 (a:Int),.int .i64 (b:Int)] w fun e w' => e = .returned (.tuple #[])∧w' = w.setCell ⟨g,hd b,none⟩ (.int .i64 ((hd a:Nat):Int))∧RowL 3 w' g (grow (L.set (hd b) (hd a))):=by
 have hA:=head_any g n c a L hd D w hG hn ha hr
 have hB:=head_any g n c b L hd D w hG hn hb hr
 have hbl:hd b < L.length:=hG.lt b (by omega)
 have HR:=hid' (hr.set (hd b) (.int .i64 ((hd a:Nat):Int)))
 rw [grow_set] at HR
 have c0:=hr.cell (hd b) _ (grow_at hbl)
 have cz:=hr.fz
 have hii:((hd b:Nat):Int) < (n:Int):=by omega
 have hi0:(0:Int)≤((hd b:Nat):Int):=by omega
 clear hG hn hr hbl
 generalize hd a = x at hA HR ⊢
 generalize hd b = y at hB HR c0 hii hi0 ⊢
 go_enter Tryz.func16,Tryz.ntmps16
 go_wp2_with fail
 refine hB.mono ?_
 rintro e w1 ⟨rfl,rfl⟩
 go_wp2_with fail
 refine hA.mono ?_
 rintro e w2 ⟨rfl,rfl⟩
 go_wp2_with fail
 exact bodyPost_end (v:=.tuple #[]) (by simp [results,Tryz.results16,go_sem]) rfl ⟨rfl,rfl,HR.out⟩
end V
end Go.Proofs.YtcggopolokekkaaGreatDoor

namespace Go.Proofs.YtcggopolokekkaaGreatDoor
open Go.RowKit
namespace V
open Q (hid' Lett ErrV Tab)
open X (RS OwnS strs)
def ndN (d:DE) (i:Nat):Nat:=(d.nodes.getD i 0).toNat
def tie1 (mo:Int) (hd:Nat→Nat) (d:DE):Nat→Nat:=if tieAB d.kind mo = true then joinH hd (ndN d 0) (ndN d 1) else hd
def tie2 (hd:Nat→Nat) (d:DE):Nat→Nat:=if tieCD d.kind = true then joinH hd (ndN d 2) (ndN d 3) else hd
def tied (mo:Int) (ds:List DE):Nat→Nat:=ds.foldl (fun hd d => tie2 (tie1 mo hd d) d) (fun x => x)
def floatsL (n:Nat) (hd:Nat→Nat):List Nat:=(List.range n).filter fun x => !decide (hd x = hd 0)
theorem ends_ge {fn:Nat} {k:Int} {l:List Int} (h:endsB fn k l = true):2≤l.length∧(tieCD k = true→l.length = 4)∧∀ x ∈ l,0≤x∧x < (fn:Int):=by
 unfold endsB at h
 rw [Bool.and_eq_true,decide_eq_true_eq,Bool.not_eq_true',List.any_eq_false] at h
 have h2:=ends_two (fn:=fn) (k:=k) (l:=l) (by
  unfold endsB
  rw [Bool.and_eq_true,decide_eq_true_eq,Bool.not_eq_true',List.any_eq_false]
  exact h)
 refine ⟨by omega,fun hc => ?_,fun x hx => ?_⟩
 ·
  have h1:=h.1
  unfold tieCD at hc
  rw [decide_eq_true_eq] at hc
  simp only [List.mem_cons,List.not_mem_nil,or_false] at hc
  rcases hc with rfl | rfl | rfl <;> (have h9:=h1.2; simp [endsN] at h9; omega)
 ·
  have:=h.2 x hx
  simp at this
  omega
end V
end Go.Proofs.YtcggopolokekkaaGreatDoor

namespace Go.Proofs.YtcggopolokekkaaGreatDoor
open Go.RowKit
namespace V
open Q (hid' Lett ErrV Tab)
open X (RS OwnS strs)
theorem tied_snoc (mo:Int) (l:List DE) (d:DE):tied mo (l ++ [d]) = tie2 (tie1 mo (tied mo l) d) d:=by
 unfold tied
 rw [List.foldl_append]
 rfl
theorem tied_at (mo:Int) (ds:List DE) (i:Nat) (hi:i < ds.length) (k:Int) (m0 m1 m2 m3:Nat) (h:k = ds[i].kind∧m0 = ndN ds[i] 0∧m1 = ndN ds[i] 1∧m2 = ndN ds[i] 2∧m3 = ndN ds[i] 3) :
  tied mo (ds.take (i + 1)) = (if tieCD k = true then joinH (if tieAB k mo = true then joinH (tied mo (ds.take i)) m0 m1 else tied mo (ds.take i)) m2 m3 else (if tieAB k mo = true then joinH (tied mo (ds.take i)) m0 m1 else tied mo (ds.take i))):=by
 obtain ⟨rfl,rfl,rfl,rfl,rfl⟩:=h
 rw [List.take_succ_eq_append_getElem hi,tied_snoc]
 rfl
theorem flo_snoc (j:Nat) (hd:Nat→Nat):floatsL (j + 1) hd = floatsL j hd ++ (if hd j = hd 0 then [] else [j]):=by
 unfold floatsL
 rw [List.range_succ,List.filter_append]
 by_cases h:hd j = hd 0 <;> simp [h]
theorem OwnI.snoc {B:Nat} {w:World} {v:Value} {l:List Int} {x:Int} (h:w.ownsRow B 3 1 v (l.length + 1) (l.map (Value.int .i64) ++ [.int .i64 x])):OwnI B w v (l ++ [x]):=by
 unfold OwnI
 rw [List.length_append,List.map_append]
 exact h
theorem gr_join {L:List Nat} {hd D:Nat→Nat} {fn a b:Nat} (h:Gr L hd D∧fn = L.length) (ha:a < fn) (hb:b < fn):Gr (L.set (hd b) (hd a)) (joinH hd a b) (fun x => if hd x = hd b then D x + D (hd a) + 1 else D x)∧fn = (L.set (hd b) (hd a)).length :=
 ⟨h.1.join (by have:=h.2; omega) (by have:=h.2; omega),by rw [List.length_set]; exact h.2⟩
theorem dev_open {fn:Nat} {w:World} {da:Option Addr} {dn dc:Nat} {ds:List DE} (h:DsR w (.slice da dn dc) ds) (i:Nat) (hi:i < ds.length) (he:endsB fn ds[i].kind ds[i].nodes = true) :
  ∃ (b off:Nat) (k:Int) (s:ByteArray) (nb noff nn cn:Nat) (rf vm vx wk:Int) (av:Option Addr) (nv cv:Nat) (ai:Option Addr) (ni ci:Nat) (ms:ByteArray) (mk:Int) (a1:Option Addr) (n1 c1:Nat) (a2:Option Addr) (n2 c2:Nat) (m0 m1 m2 m3:Nat),da = some ⟨b,off,none⟩∧(k = ds[i].kind∧m0 = ndN ds[i] 0∧m1 = ndN ds[i] 1∧m2 = ndN ds[i] 2∧m3 = ndN ds[i] 3)∧(2≤nn∧m0 < fn∧m1 < fn)∧(tieCD k = true→nn = 4∧m2 < fn∧m3 < fn) ∧
   ∀ V,Kept w V→(V.cell? ⟨b,off + i * 13,none⟩ = some (.int .u8 k)∧V.cell? ⟨b,off + i * 13 + 1,none⟩ = some (.string s)∧V.cell? ⟨b,off + i * 13 + 2,none⟩ = some (.slice (some ⟨nb,noff,none⟩) nn cn)∧V.cell? ⟨b,off + i * 13 + 3,none⟩ = some (.int .i64 rf)∧V.cell? ⟨b,off + i * 13 + 4,none⟩ = some (.int .i64 vm)∧V.cell? ⟨b,off + i * 13 + 5,none⟩ = some (.int .i64 vx)∧V.cell? ⟨b,off + i * 13 + 6,none⟩ = some (.int .i64 wk)∧V.cell? ⟨b,off + i * 13 + 7,none⟩ = some (.slice av nv cv)∧V.cell? ⟨b,off + i * 13 + 8,none⟩ = some (.slice ai ni ci)∧V.cell? ⟨b,off + i * 13 + 9,none⟩ = some (.string ms)∧V.cell? ⟨b,off + i * 13 + 10,none⟩ = some (.int .u8 mk)∧V.cell? ⟨b,off + i * 13 + 11,none⟩ = some (.slice a1 n1 c1)∧V.cell? ⟨b,off + i * 13 + 12,none⟩ = some (.slice a2 n2 c2))∧(V.cell? ⟨nb,noff,none⟩ = some (.int .i64 (m0:Int))∧V.cell? ⟨nb,noff + 1,none⟩ = some (.int .i64 (m1:Int)))∧(tieCD k = true→V.cell? ⟨nb,noff + 2,none⟩ = some (.int .i64 (m2:Int))∧V.cell? ⟨nb,noff + 3,none⟩ = some (.int .i64 (m3:Int))):=by
 have hmem:ds[i] ∈ ds:=List.getElem_mem hi
 have hOK:=(h.2 _ hmem).nodes
 obtain ⟨hEN1,hEN2,hEN3⟩:=ends_ge he
 have hxx:=map_getD DE.cells ds i hi
 obtain ⟨ao',cap',hv,hx⟩:=h.1
 simp only [Value.slice.injEq] at hv
 obtain ⟨rfl,hnn,rfl⟩:=hv
 rw [List.length_map] at hx
 obtain ⟨b,off,rfl,hb',hc⟩:=hx (by omega)
 have hc':=fun j (hj:j < 13) => hc i hi j hj
 rw [hxx] at hc'
 clear hc hx hxx hmem
 generalize ds[i] = Dv at hc' hOK hEN1 hEN2 hEN3 he ⊢
 obtain ⟨k,nm,nds,an,cn,rf,vm,vx,wk,wvl,av,cv,wsl,ai,ci,⟨mnm,mk,gsl,vsl⟩,a1,c1,a2,c2⟩:=Dv
 have hOK:ISl w (.slice an nds.length cn) nds:=hOK
 have hN1:2≤nds.length:=hEN1
 have hN2:tieCD k = true→nds.length = 4:=hEN2
 have hN3:∀ x ∈ nds,0≤x∧x < (fn:Int):=hEN3
 clear hEN1 hEN2 hEN3 he
 obtain ⟨ao2,cap2,hv2,hx2⟩:=hOK
 simp only [Value.slice.injEq] at hv2
 obtain ⟨rfl,-,rfl⟩:=hv2
 obtain ⟨nb,noff,rfl,hnb,hnc⟩:=hx2 (by omega)
 have hm:∀ j,j < nds.length→(nds.getD j 0).toNat < fn∧nds.getD j 0 = (((nds.getD j 0).toNat:Nat):Int):=fun j hj => by
  have hm:nds.getD j 0 ∈ nds:=by rw [List.getD_eq_getElem?_getD,List.getElem?_eq_getElem hj]; exact List.getElem_mem hj
  have:=hN3 _ hm
  omega
 have hcell:∀ V,Kept w V→∀ j,j < nds.length→V.cell? ⟨nb,noff + j,none⟩ = some (.int .i64 (((nds.getD j 0).toNat:Nat):Int)):=fun V K j hj => by
  rw [Below.cell K (p:=⟨nb,noff + j,none⟩) hnb,hnc j hj,← (hm j hj).2]
 have x0:=hm 0 (by omega)
 have x1:=hm 1 (by omega)
 have x2:tieCD k = true→(nds.getD 2 0).toNat < fn∧(nds.getD 3 0).toNat < fn:=fun h4 => by
  have h5:=hN2 h4
  exact ⟨(hm 2 (by omega)).1,(hm 3 (by omega)).1⟩
 have y0:=fun V K => hcell V K 0 (by omega)
 have y1:=fun V K => hcell V K 1 (by omega)
 have y2:=fun V K (h4:tieCD k = true) => hcell V K 2 (by have h5:=hN2 h4; omega)
 have y3:=fun V K (h4:tieCD k = true) => hcell V K 3 (by have h5:=hN2 h4; omega)
 refine ⟨b,off,k,X.bs nm,nb,noff,nds.length,cn,rf,vm,vx,wk,av,wvl.length,cv,ai,wsl.length,ci,X.bs mnm,mk,a1,gsl.length,c1,a2,vsl.length,c2,(nds.getD 0 0).toNat,(nds.getD 1 0).toNat,(nds.getD 2 0).toNat,(nds.getD 3 0).toNat,rfl,⟨rfl,rfl,rfl,rfl,rfl⟩,⟨hN1,x0.1,x1.1⟩,fun h4 => ⟨hN2 h4,x2 h4⟩,fun V K => ⟨?_,⟨y0 V K,y1 V K⟩,fun h4 => ⟨y2 V K h4,y3 V K h4⟩⟩⟩
 have hk:∀ j,j < 13→V.cell? ⟨b,off + i * 13 + j,none⟩ = _:=fun j hj => (Below.cell K (p:=⟨b,off + i * 13 + j,none⟩) hb').trans (hc' j hj)
 exact ⟨hk 0 (by omega),hk 1 (by omega),hk 2 (by omega),hk 3 (by omega),hk 4 (by omega),hk 5 (by omega),hk 6 (by omega),hk 7 (by omega),hk 8 (by omega),hk 9 (by omega),hk 10 (by omega),hk 11 (by omega),hk 12 (by omega)⟩
set_option maxRecDepth 100000 in
set_option maxHeartbeats 16000000 in
theorem floating_any (fa:Option Addr) (fn fc:Nat) (da:Option Addr) (dn dc:Nat) (fm fx fk:Int) (mo:Int) (ds:List DE) (w:World) (h:DsR w (.slice da dn dc) ds) (hends:∀ d ∈ ds,endsB fn d.kind d.nodes = true) (hfn:1≤fn) (hfb:fn≤1000000) (hdb:dn≤1000000) :
  Calls Tryz.prog 11 #[.agg #[.slice fa fn fc,.slice da dn dc,.int .i64 fm,.int .i64 fx,.int .i64 fk],.int .i64 mo] w fun e w' => Kept w w'∧∃ v,e = .returned v∧OwnI w.heap.size w' v ((floatsL fn (tied mo ds)).map Int.ofNat):=by
 have hn:dn = ds.length:=by have:=h.1.len; rw [List.length_map] at this; exact this
 obtain ⟨i0,hi,hz0,hz1,hz2⟩:=info_parts info_i64
 have HL:=hid' h
 have HN:=hid' hn
 have HE:=hid' hends
 clear h hn hends
 obtain ⟨tf,htf⟩:∃ f,f = tied mo ds:=⟨_,rfl⟩
 rw [← htf]
 have HTF:=hid' htf
 clear htf
 have kA:=(Kept.refl w).alloc (.cells #[.slice fa fn fc,.slice da dn dc,.int .i64 fm,.int .i64 fx,.int .i64 fk] 27)
 have hA:=RowL.alloc 27 w [.slice fa fn fc,.slice da dn dc,.int .i64 fm,.int .i64 fx,.int .i64 fk]
 go_enter Tryz.func11,Tryz.ntmps11
 go_upto_region 1 with fail
 generalize w.alloc (.cells #[.slice fa fn fc,.slice da dn dc,.int .i64 fm,.int .i64 fx,.int .i64 fk] 27) = W at kA hA ⊢
 obtain ⟨p,hp⟩:∃ q,q = w.heap.size:=⟨_,rfl⟩
 rw [← hp] at hA ⊢
 have HK:=hid' kA
 have HF:=hid' hA
 have f0:=hA.cell 0 (.slice fa fn fc)
 have HP:=hid' hp
 clear kA hA hp
 go_wp2_with fail
 refine (talone_any fn _ hfb).mono ?_
 rintro e w1 ⟨hk,g,rfl,hr,hgs⟩
 have HG:=hid' (Nat.le_trans HK.out.size hgs)
 have HK:=hid' (HK.out.trans hk)
 have HR:=hid' hr
 have f1:=(HF.out.kept hk).cell 1 (.slice da dn dc)
 clear hk hr hgs HF f0
 go_wp2_with fail
 clear f1
 --%L
 go_loopw [17] (fun v17 wr => ∃ (i:Nat) (L:List Nat) (D:Nat→Nat),i≤dn∧v17 = .int .i64 (i:Int)∧Hid (Kept w wr∧Gr L (tied mo (ds.take i)) D∧fn = L.length∧RowL 3 wr g (grow L))) (fun v17 _ => dn - (intOf v17).toNat)
 case atStart => exact ⟨0,List.range fn,_,Nat.zero_le _,rfl,HK.out,Gr.alone fn,by simp,HR.out⟩
 case round =>
  obtain ⟨i,L,D,hil,rfl,H⟩:=hrel
  clear HK HR
  by_cases hit:i < dn
  ·
   --%R
   have hii:(i:Int) < (dn:Int):=by omega
   have hi0:(0:Int)≤(i:Int):=by omega
   have hiL:i < ds.length:=by have:=HN.out; omega
   obtain ⟨b,off,k,s,nb,noff,nn,cn,rf,vm,vx,wk,av,nv,cv,ai,ni,ci,ms,mk,a1,n1,c1,a2,n2,c2,m0,m1,m2,m3,rfl,hkm,hlt,hcd,hV⟩:=dev_open (fn:=fn) HL.out i hiL (HE.out _ (List.getElem_mem hiL))
   have HT2:=hid' (tied_at mo ds i hiL k m0 m1 m2 m3 hkm)
   obtain ⟨hd,hhd⟩:∃ f,f = tied mo (ds.take i):=⟨_,rfl⟩
   rw [← hhd] at H HT2
   clear hhd
   obtain ⟨e0,e1,e2,e3,e4,e5,e6,e7,e8,e9,e10,e11,e12⟩:=(hV wr H.out.1).1
   have HV:=hid' hV
   have HCD:=hid' hcd
   have HB1:=hid' hlt.2
   have h0n:0 < nn:=by have:=hlt.1; omega
   have h1n:(1:Int) < (nn:Int):=by have:=hlt.1; omega
   clear hkm hlt hcd hV
   have kD:=(Kept.refl wr).alloc (.cells #[.int .u8 k,.string s,.slice (some ⟨nb,noff,none⟩) nn cn,.int .i64 rf,.int .i64 vm,.int .i64 vx,.int .i64 wk,.slice av nv cv,.slice ai ni ci,.string ms,.int .u8 mk,.slice a1 n1 c1,.slice a2 n2 c2] 41)
   have hD:=RowL.alloc 41 wr [.int .u8 k,.string s,.slice (some ⟨nb,noff,none⟩) nn cn,.int .i64 rf,.int .i64 vm,.int .i64 vx,.int .i64 wk,.slice av nv cv,.slice ai ni ci,.string ms,.int .u8 mk,.slice a1 n1 c1,.slice a2 n2 c2]
   go_upto_region 5 with fail
   have HK:=hid' (H.out.1.trans kD)
   have HR:=hid' (H.out.2.2.2.kept kD)
   have HGr:=hid' (And.intro H.out.2.1 H.out.2.2.1)
   have hgq:¬ wr.heap.size = g:=by have:=H.out.2.2.2.lt; omega
   generalize wr.alloc (.cells #[.int .u8 k,.string s,.slice (some ⟨nb,noff,none⟩) nn cn,.int .i64 rf,.int .i64 vm,.int .i64 vx,.int .i64 wk,.slice av nv cv,.slice ai ni ci,.string ms,.int .u8 mk,.slice a1 n1 c1,.slice a2 n2 c2] 41) = W2 at kD hD HK HR ⊢
   obtain ⟨q,hq⟩:∃ q,q = wr.heap.size:=⟨_,rfl⟩
   rw [← hq] at hD hgq ⊢
   have HD:=hid' hD
   have g0:=hD.cell 0 (.int .u8 k)
   clear kD hD hq e0 e1 e2 e3 e4 e5 e6 e7 e8 e9 e10 e11 e12 H
   --%R5
   go_wp2_with fail
   refine (tieAB_any k mo _).mono ?_
   rintro e w3 ⟨rfl,rfl⟩
   clear g0
   cases hb1:tieAB k mo with
   | true =>
    --%A
    rw [hb1] at HT2
    clear hb1
    go_upto_region 6 with fail
    have sS:=hid' (fun (V:World) (K:Kept w V) (R:RowL 41 V q [.int .u8 k,.string s,.slice (some ⟨nb,noff,none⟩) nn cn,.int .i64 rf,.int .i64 vm,.int .i64 vx,.int .i64 wk,.slice av nv cv,.slice ai ni ci,.string ms,.int .u8 mk,.slice a1 n1 c1,.slice a2 n2 c2]) => And.intro (R.cell 2 (.slice (some ⟨nb,noff,none⟩) nn cn)) ((HV.out V K).2.1))
    have kd:Kept w3 w3.drew:=(Kept.refl _).drew
    have HK:=hid' (HK.out.trans kd)
    have HD:=hid' (HD.out.kept kd)
    have HR:=hid' (HR.out.kept kd)
    refine wp_region_held_drew (S:=fun w' => w'.cell? ⟨q,2,none⟩ = some (.slice (some ⟨nb,noff,none⟩) nn cn)∧w'.cell? ⟨nb,noff,none⟩ = some (.int .i64 (m0:Int))∧w'.cell? ⟨nb,noff + 1,none⟩ = some (.int .i64 (m1:Int))) (by kernel_rfl) (sS.out _ HK.out HD.out) (fun hHeld => ?_)
    clear kd
    generalize w3.drew = Wd1 at HK HD HR hHeld ⊢
    --%J0
    refine tk 0 hHeld ?_
    refine tk 1 hHeld ?_
    refine tk 2 hHeld ?_
    refine tk 3 hHeld ?_
    refine tk 4 hHeld ?_
    refine tk 5 hHeld ?_
    refine tk 6 hHeld ?_
    refine tk 7 hHeld ?_
    refine tk 8 hHeld ?_
    --%J1
    refine rdy 9 fun K hK => ?_
    go_simp
    --%J2
    have hj:=join_any g fn fn m0 m1 L hd D _ HGr.out.1 HGr.out.2 HB1.out.1 HB1.out.2 HR.out
    refine hj.mono ?_
    rintro e v1 ⟨rfl,hw5,hrow⟩
    have HK:=hid' (show Kept w v1 by rw [hw5]; exact HK.out.setCell (p:=⟨g,_,none⟩) HG.out _)
    have HD:=hid' (show RowL 41 v1 q [.int .u8 k,.string s,.slice (some ⟨nb,noff,none⟩) nn cn,.int .i64 rf,.int .i64 vm,.int .i64 vx,.int .i64 wk,.slice av nv cv,.slice ai ni ci,.string ms,.int .u8 mk,.slice a1 n1 c1,.slice a2 n2 c2] by rw [hw5]; exact HD.out.far (fun e => hgq e) _ _)
    refine hK.out _ _ (sS.out _ HK.out HD.out) (fun hHeld => ?_)
    clear hK K
    refine _root_.Go.Proofs.YtcggopolokekkaaGreatDoor.dn ?_
    have HR:=hid' hrow
    have HGr:=hid' (gr_join HGr.out HB1.out.1 HB1.out.2)
    clear hrow hw5 hHeld sS hj
    --%A2
    have g0:=HD.out.cell 0 (.int .u8 k)
    go_upto_region 7 with fail
    go_wp2_with fail
    refine (tieCD_any k _).mono ?_
    rintro e u3 ⟨rfl,rfl⟩
    clear g0
    cases hb2:tieCD k with
    | true =>
     --%C
     have HB2:=hid' (HCD.out hb2)
     have h2n:(2:Int) < (nn:Int):=by have:=HB2.out.1; omega
     have h3n:(3:Int) < (nn:Int):=by have:=HB2.out.1; omega
     have HB3:=hid' HB2.out.2
     have h23:=hid' (fun V K => (HV.out V K).2.2 hb2)
     rw [hb2] at HT2
     clear hb2 HB2
     go_upto_region 8 with fail
     have sS:=hid' (fun (V:World) (K:Kept w V) (R:RowL 41 V q [.int .u8 k,.string s,.slice (some ⟨nb,noff,none⟩) nn cn,.int .i64 rf,.int .i64 vm,.int .i64 vx,.int .i64 wk,.slice av nv cv,.slice ai ni ci,.string ms,.int .u8 mk,.slice a1 n1 c1,.slice a2 n2 c2]) => And.intro (R.cell 2 (.slice (some ⟨nb,noff,none⟩) nn cn)) (h23.out V K))
     have kd:Kept u3 u3.drew:=(Kept.refl _).drew
     have HK:=hid' (HK.out.trans kd)
     have HD:=hid' (HD.out.kept kd)
     have HR:=hid' (HR.out.kept kd)
     refine wp_region_held_drew (S:=fun w' => w'.cell? ⟨q,2,none⟩ = some (.slice (some ⟨nb,noff,none⟩) nn cn)∧w'.cell? ⟨nb,noff + 2,none⟩ = some (.int .i64 (m2:Int))∧w'.cell? ⟨nb,noff + 3,none⟩ = some (.int .i64 (m3:Int))) (by kernel_rfl) (sS.out _ HK.out HD.out) (fun hHeld => ?_)
     clear kd
     generalize u3.drew = Wd2 at HK HD HR hHeld ⊢
     --%J0
     refine tk 0 hHeld ?_
     refine tk 1 hHeld ?_
     refine tk 2 hHeld ?_
     refine tk 3 hHeld ?_
     refine tk 4 hHeld ?_
     refine tk 5 hHeld ?_
     refine tk 6 hHeld ?_
     refine tk 7 hHeld ?_
     refine tk 8 hHeld ?_
     --%J1
     refine rdy 9 fun K hK => ?_
     go_simp
     --%J2
     have hj:=join_any g fn fn m2 m3 _ _ _ _ HGr.out.1 HGr.out.2 HB3.out.1 HB3.out.2 HR.out
     refine hj.mono ?_
     rintro e v2 ⟨rfl,hw5,hrow⟩
     have HK:=hid' (show Kept w v2 by rw [hw5]; exact HK.out.setCell (p:=⟨g,_,none⟩) HG.out _)
     have HD:=hid' (show RowL 41 v2 q [.int .u8 k,.string s,.slice (some ⟨nb,noff,none⟩) nn cn,.int .i64 rf,.int .i64 vm,.int .i64 vx,.int .i64 wk,.slice av nv cv,.slice ai ni ci,.string ms,.int .u8 mk,.slice a1 n1 c1,.slice a2 n2 c2] by rw [hw5]; exact HD.out.far (fun e => hgq e) _ _)
     refine hK.out _ _ (sS.out _ HK.out HD.out) (fun hHeld => ?_)
     clear hK K
     refine _root_.Go.Proofs.YtcggopolokekkaaGreatDoor.dn ?_
     have HR:=hid' hrow
     have HGr:=hid' (gr_join HGr.out HB3.out.1 HB3.out.2)
     clear hrow hw5 hHeld sS hj
     go_wp2_with fail
     go_roundw
     case rel => exact ⟨i + 1,_,_,by omega,by go_num,HK.out,(by rw [HT2.out]; exact HGr.out.1),HGr.out.2,HR.out⟩
     case measure => show dn - ((i:Int) + 1).toNat < dn - (i:Int).toNat; omega
    | false =>
     --%Dn
     rw [hb2] at HT2
     clear hb2
     go_wp2_with fail
     go_roundw
     case rel => exact ⟨i + 1,_,_,by omega,by go_num,HK.out,(by rw [HT2.out]; exact HGr.out.1),HGr.out.2,HR.out⟩
     case measure => show dn - ((i:Int) + 1).toNat < dn - (i:Int).toNat; omega
   | false =>
    --%B
    rw [hb1] at HT2
    clear hb1
    have g0:=HD.out.cell 0 (.int .u8 k)
    go_upto_region 7 with fail
    go_wp2_with fail
    refine (tieCD_any k _).mono ?_
    rintro e u3 ⟨rfl,rfl⟩
    clear g0
    cases hb2:tieCD k with
    | true =>
     --%C
     have HB2:=hid' (HCD.out hb2)
     have h2n:(2:Int) < (nn:Int):=by have:=HB2.out.1; omega
     have h3n:(3:Int) < (nn:Int):=by have:=HB2.out.1; omega
     have HB3:=hid' HB2.out.2
     have h23:=hid' (fun V K => (HV.out V K).2.2 hb2)
     rw [hb2] at HT2
     clear hb2 HB2
     go_upto_region 8 with fail
     have sS:=hid' (fun (V:World) (K:Kept w V) (R:RowL 41 V q [.int .u8 k,.string s,.slice (some ⟨nb,noff,none⟩) nn cn,.int .i64 rf,.int .i64 vm,.int .i64 vx,.int .i64 wk,.slice av nv cv,.slice ai ni ci,.string ms,.int .u8 mk,.slice a1 n1 c1,.slice a2 n2 c2]) => And.intro (R.cell 2 (.slice (some ⟨nb,noff,none⟩) nn cn)) (h23.out V K))
     have kd:Kept u3 u3.drew:=(Kept.refl _).drew
     have HK:=hid' (HK.out.trans kd)
     have HD:=hid' (HD.out.kept kd)
     have HR:=hid' (HR.out.kept kd)
     refine wp_region_held_drew (S:=fun w' => w'.cell? ⟨q,2,none⟩ = some (.slice (some ⟨nb,noff,none⟩) nn cn)∧w'.cell? ⟨nb,noff + 2,none⟩ = some (.int .i64 (m2:Int))∧w'.cell? ⟨nb,noff + 3,none⟩ = some (.int .i64 (m3:Int))) (by kernel_rfl) (sS.out _ HK.out HD.out) (fun hHeld => ?_)
     clear kd
     generalize u3.drew = Wd2 at HK HD HR hHeld ⊢
     --%J0
     refine tk 0 hHeld ?_
     refine tk 1 hHeld ?_
     refine tk 2 hHeld ?_
     refine tk 3 hHeld ?_
     refine tk 4 hHeld ?_
     refine tk 5 hHeld ?_
     refine tk 6 hHeld ?_
     refine tk 7 hHeld ?_
     refine tk 8 hHeld ?_
     --%J1
     refine rdy 9 fun K hK => ?_
     go_simp
     --%J2
     have hj:=join_any g fn fn m2 m3 L hd D _ HGr.out.1 HGr.out.2 HB3.out.1 HB3.out.2 HR.out
     refine hj.mono ?_
     rintro e v2 ⟨rfl,hw5,hrow⟩
     have HK:=hid' (show Kept w v2 by rw [hw5]; exact HK.out.setCell (p:=⟨g,_,none⟩) HG.out _)
     have HD:=hid' (show RowL 41 v2 q [.int .u8 k,.string s,.slice (some ⟨nb,noff,none⟩) nn cn,.int .i64 rf,.int .i64 vm,.int .i64 vx,.int .i64 wk,.slice av nv cv,.slice ai ni ci,.string ms,.int .u8 mk,.slice a1 n1 c1,.slice a2 n2 c2] by rw [hw5]; exact HD.out.far (fun e => hgq e) _ _)
     refine hK.out _ _ (sS.out _ HK.out HD.out) (fun hHeld => ?_)
     clear hK K
     refine _root_.Go.Proofs.YtcggopolokekkaaGreatDoor.dn ?_
     have HR:=hid' hrow
     have HGr:=hid' (gr_join HGr.out HB3.out.1 HB3.out.2)
     clear hrow hw5 hHeld sS hj
     go_wp2_with fail
     go_roundw
     case rel => exact ⟨i + 1,_,_,by omega,by go_num,HK.out,(by rw [HT2.out]; exact HGr.out.1),HGr.out.2,HR.out⟩
     case measure => show dn - ((i:Int) + 1).toNat < dn - (i:Int).toNat; omega
    | false =>
     --%Dn
     rw [hb2] at HT2
     clear hb2
     go_wp2_with fail
     go_roundw
     case rel => exact ⟨i + 1,_,_,by omega,by go_num,HK.out,(by rw [HT2.out]; exact HGr.out.1),HGr.out.2,HR.out⟩
     case measure => show dn - ((i:Int) + 1).toNat < dn - (i:Int).toNat; omega
  ·
   --%E
   have hii:¬ (i:Int) < (dn:Int):=by omega
   obtain rfl:i = dn:=by omega
   have HGr:=hid' (And.intro (show Gr L tf D by have:=H.out.2.1; rw [List.take_of_length_le (by have:=HN.out; omega),← HTF.out] at this; exact this) H.out.2.2.1)
   obtain ⟨B,hB⟩:∃ B,B = wr.heap.size:=⟨_,rfl⟩
   have HK:=hid' (And.intro H.out.1 (And.intro H.out.2.2.2 (And.intro (show B≤wr.heap.size by omega) (And.intro (show g < B by rw [hB]; exact H.out.2.2.2.lt) (show w.heap.size≤B by rw [hB]; exact H.out.1.size)))))
   clear H hB hit hil
   go_wp2_with fail
   --%F
   go_loopw [8,51] (fun v8 v51 wr => ∃ (j:Nat) (bv:Value),j≤fn∧v8 = bv∧v51 = .int .i64 (j:Int)∧Hid ((Kept w wr∧RowL 3 wr g (grow L)∧B≤wr.heap.size)∧OwnI B wr bv ((floatsL j tf).map Int.ofNat))) (fun _ v51 _ => fn - (intOf v51).toNat)
   case atStart => exact ⟨0,_,Nat.zero_le _,rfl,rfl,⟨HK.out.1,HK.out.2.1,HK.out.2.2.1⟩,World.ownsRow_nil _ _ _ _⟩
   case round =>
    obtain ⟨j,bv,hjl,rfl,rfl,H⟩:=hrel
    have HB:=hid' (And.intro HK.out.2.2.2.1 HK.out.2.2.2.2)
    clear HK
    by_cases hjt:j < fn
    ·
     have hji:(j:Int) < (fn:Int):=by omega
     have hj0:(0:Int)≤(j:Int):=by omega
     have hJ:=joined_any g fn fn j 0 L tf D
     have HS:=hid' (flo_snoc j tf)
     by_cases e:tf j = tf 0
     ·
      rw [if_pos e,List.append_nil] at HS
      rw [decide_eq_true e] at hJ
      clear e
      go_wp2_with fail
      refine (hJ _ HGr.out.1 HGr.out.2 hjt (by omega) H.out.1.2.1).mono ?_
      rintro e w4 ⟨rfl,rfl⟩
      clear hJ
      go_wp2_with fail
      go_roundw
      case rel => exact ⟨j + 1,_,by omega,rfl,by go_num,H.out.1,by rw [HS.out]; exact H.out.2⟩
      case measure => show fn - ((j:Int) + 1).toNat < fn - (j:Int).toNat; omega
     ·
      --%G
      rw [if_neg e] at HS
      rw [decide_eq_false e] at hJ
      clear e
      go_wp2_with fail
      refine (hJ _ HGr.out.1 HGr.out.2 hjt (by omega) H.out.1.2.1).mono ?_
      rintro e w4 ⟨rfl,rfl⟩
      clear hJ
      obtain ⟨l,hl⟩:∃ l,l = (floatsL j tf).map Int.ofNat:=⟨_,rfl⟩
      have HS:=hid' (show (floatsL (j + 1) tf).map Int.ofNat = l ++ [(j:Int)] by rw [HS.out,List.map_append,← hl]; rfl)
      have hll:l.length≤1000000:=by
       rw [hl,List.length_map]
       unfold floatsL
       have:=List.length_filter_le (fun x => !decide (tf x = tf 0)) (List.range j)
       rw [List.length_range] at this
       omega
      rw [← hl] at H
      clear hl
      --%G2
      go_wp2_with (at_builtin; refine wpList_append_lies _ rfl (.tmp 58) (.tmp 60) 30 rfl B 3 i0 (.int .i64 0) 1 8 und_ints hi hz0 hz1 hz2 rfl (by decide) u8 l.length (l.map (Value.int .i64)) rfl (by exact World.ownsRow.alloc H.out.2 _) ⟨w4.heap.size,0,none⟩ 1 1 [.int .i64 (j:Int)] rfl rfl (X.cell_new w4 _ _) (fun u hu => by simp at hu; subst hu; rfl) (by omega) (by unfold maxLen; omega) (by omega) (by have:=H.out.1.2.2; simp; omega) _ rfl ?_)
      intro g4 cap4 W4 own4 hg4 hgg _
      have KT:=(Kept.refl w4).alloc (.cells #[.int .i64 (j:Int)] 3)
      have hb4:∀ k,u8.ownBlock = some k→B≤k:=fun k hk => (World.ownsRow.lt (show OwnI B _ u8 l from H.out.2) k hk).1
      have HO:=hid' (OwnI.snoc own4)
      have HN4:=hid' (And.intro (Below.grown (H.out.1.1.trans KT) hg4 (Nat.le_trans H.out.1.1.size KT.size) (fun k hk => Nat.le_trans HB.out.2 (hb4 k hk))) (And.intro ((H.out.1.2.1.kept KT).block (hg4.block g (H.out.1.2.1.kept KT).lt (fun e => by have:=hb4 g e.symm; have:=HB.out.1; omega))) (show B≤W4.heap.size from Nat.le_trans H.out.1.2.2 (Nat.le_trans KT.size hg4.size))))
      clear own4 hg4 hgg KT hb4
      go_wp2_with fail
      go_roundw
      case rel => exact ⟨j + 1,_,by omega,rfl,by go_num,HN4.out,by rw [HS.out]; exact HO.out⟩
      case measure => show fn - ((j:Int) + 1).toNat < fn - (j:Int).toNat; omega
    ·
     have hji:¬ (j:Int) < (fn:Int):=by omega
     obtain rfl:j = fn:=by omega
     go_wp2_with fail
     go_ret
     exact ⟨H.out.1.1,_,rfl,own_mono H.out.2 HB.out.2⟩
end V
end Go.Proofs.YtcggopolokekkaaGreatDoor

namespace Go.Proofs.YtcggopolokekkaaGreatDoor
open Go.RowKit
namespace V
open Q (hid' Lett ErrV Tab)
open X (RS OwnS strs)
def holds (mo:Int) (hd:Nat→Nat) (d:DE):Nat→Nat:=if holdAB d.kind mo = true then joinH hd (ndN d 0) (ndN d 1) else hd
def held (mo:Int) (ds:List DE):Nat→Nat:=ds.foldl (holds mo) (fun x => x)
def closesB (mo:Int) (hd:Nat→Nat) (d:DE):Bool:=holdAB d.kind mo && decide (hd (ndN d 0) = hd (ndN d 1))
def loopsL (mo:Int) (ds:List DE):List Nat:=(List.range ds.length).filter fun i => (ds[i]?.map (closesB mo (held mo (ds.take i)))).getD false
theorem held_snoc (mo:Int) (l:List DE) (d:DE):held mo (l ++ [d]) = holds mo (held mo l) d:=by
 unfold held
 rw [List.foldl_append]
 rfl
def loopsUp (mo:Int) (ds:List DE) (i:Nat):List Nat:=(List.range i).filter fun i => (ds[i]?.map (closesB mo (held mo (ds.take i)))).getD false
theorem loops_snoc (mo:Int) (ds:List DE) (i:Nat) (hi:i < ds.length):loopsUp mo ds (i + 1) = loopsUp mo ds i ++ (if closesB mo (held mo (ds.take i)) ds[i] = true then [i] else []):=by
 unfold loopsUp
 rw [List.range_succ,List.filter_append]
 cases h:closesB mo (held mo (ds.take i)) ds[i] <;> simp [hi,h]
theorem closes_at (mo:Int) (ds:List DE) (i:Nat) (hi:i < ds.length) (k:Int) (m0 m1 m2 m3:Nat) (h:k = ds[i].kind∧m0 = ndN ds[i] 0∧m1 = ndN ds[i] 1∧m2 = ndN ds[i] 2∧m3 = ndN ds[i] 3) :
  held mo (ds.take (i + 1)) = (if holdAB k mo = true then joinH (held mo (ds.take i)) m0 m1 else held mo (ds.take i))∧loopsUp mo ds (i + 1) = loopsUp mo ds i ++ (if (holdAB k mo && decide (held mo (ds.take i) m0 = held mo (ds.take i) m1)) = true then [i] else []):=by
 obtain ⟨rfl,rfl,rfl,rfl,rfl⟩:=h
 refine ⟨?_,loops_snoc mo ds i hi⟩
 rw [List.take_succ_eq_append_getElem hi,held_snoc]
 rfl
set_option maxRecDepth 100000 in
set_option maxHeartbeats 16000000 in
theorem closing_any (fa:Option Addr) (fn fc:Nat) (da:Option Addr) (dn dc:Nat) (fm fx fk:Int) (mo:Int) (ds:List DE) (w:World) (h:DsR w (.slice da dn dc) ds) (hends:∀ d ∈ ds,endsB fn d.kind d.nodes = true) (hfb:fn≤1000000) (hdb:dn≤1000000) :
  Calls Tryz.prog 12 #[.agg #[.slice fa fn fc,.slice da dn dc,.int .i64 fm,.int .i64 fx,.int .i64 fk],.int .i64 mo] w fun e w' => Kept w w'∧∃ v,e = .returned v∧OwnI w.heap.size w' v ((loopsL mo ds).map Int.ofNat):=by
 have hn:dn = ds.length:=by have:=h.1.len; rw [List.length_map] at this; exact this
 obtain ⟨i0,hi,hz0,hz1,hz2⟩:=info_parts info_i64
 obtain ⟨lf,hlf⟩:∃ f,f = loopsL mo ds:=⟨_,rfl⟩
 rw [← hlf]
 have HLL:=hid' (show lf = loopsUp mo ds dn by rw [hlf,hn]; rfl)
 clear hlf
 have HL:=hid' h
 have HN:=hid' hn
 have HE:=hid' hends
 clear h hn hends
 have kA:=(Kept.refl w).alloc (.cells #[.slice fa fn fc,.slice da dn dc,.int .i64 fm,.int .i64 fx,.int .i64 fk] 27)
 have hA:=RowL.alloc 27 w [.slice fa fn fc,.slice da dn dc,.int .i64 fm,.int .i64 fx,.int .i64 fk]
 go_enter Tryz.func12,Tryz.ntmps12
 go_upto_region 1 with fail
 generalize w.alloc (.cells #[.slice fa fn fc,.slice da dn dc,.int .i64 fm,.int .i64 fx,.int .i64 fk] 27) = W at kA hA ⊢
 obtain ⟨p,hp⟩:∃ q,q = w.heap.size:=⟨_,rfl⟩
 rw [← hp] at hA ⊢
 have HK:=hid' kA
 have HF:=hid' hA
 have f0:=hA.cell 0 (.slice fa fn fc)
 have HP:=hid' hp
 clear kA hA hp
 go_wp2_with fail
 refine (talone_any fn _ hfb).mono ?_
 rintro e w1 ⟨hk,g,rfl,hr,hgs⟩
 have HG:=hid' (Nat.le_trans HK.out.size hgs)
 have HK:=hid' (HK.out.trans hk)
 have HR:=hid' hr
 have f1:=(HF.out.kept hk).cell 1 (.slice da dn dc)
 clear hk hr hgs HF f0
 go_wp2_with fail
 clear f1
 obtain ⟨B,hB⟩:∃ B,B = w1.heap.size:=⟨_,rfl⟩
 have HB:=hid' (show g < B by rw [hB]; exact HR.out.lt)
 have HBw:=hid' (show w.heap.size≤B by rw [hB]; exact HK.out.size)
 have HBs:=hid' (show B≤w1.heap.size by omega)
 clear hB
 --%L
 go_loopw [6,16] (fun v6 v16 wr => ∃ (i:Nat) (L:List Nat) (D:Nat→Nat) (lv:Value),i≤dn∧v6 = lv∧v16 = .int .i64 (i:Int)∧Hid ((Kept w wr∧Gr L (held mo (ds.take i)) D∧fn = L.length∧RowL 3 wr g (grow L))∧B≤wr.heap.size∧OwnI B wr lv ((loopsUp mo ds i).map Int.ofNat))) (fun _ v16 _ => dn - (intOf v16).toNat)
 case atStart => exact ⟨0,List.range fn,_,_,Nat.zero_le _,rfl,rfl,⟨HK.out,Gr.alone fn,by simp,HR.out⟩,HBs.out,World.ownsRow_nil _ _ _ _⟩
 case round =>
  obtain ⟨i,L,D,lv,hil,rfl,rfl,H⟩:=hrel
  clear HK HR HBs
  by_cases hit:i < dn
  ·
   --%R
   have hii:(i:Int) < (dn:Int):=by omega
   have hi0:(0:Int)≤(i:Int):=by omega
   have hiL:i < ds.length:=by have:=HN.out; omega
   obtain ⟨b,off,k,s,nb,noff,nn,cn,rf,vm,vx,wk,av,nv,cv,ai,ni,ci,ms,mk,a1,n1,c1,a2,n2,c2,m0,m1,m2,m3,rfl,hkm,hlt,hcd,hV⟩:=dev_open (fn:=fn) HL.out i hiL (HE.out _ (List.getElem_mem hiL))
   have HT2:=hid' (closes_at mo ds i hiL k m0 m1 m2 m3 hkm)
   obtain ⟨hd,hhd⟩:∃ f,f = held mo (ds.take i):=⟨_,rfl⟩
   rw [← hhd] at H HT2
   clear hhd
   obtain ⟨l,hl⟩:∃ l,l = (loopsUp mo ds i).map Int.ofNat:=⟨_,rfl⟩
   have hll:l.length≤1000000:=by
    rw [hl,List.length_map]
    unfold loopsUp
    have:=List.length_filter_le (fun i => (ds[i]?.map (closesB mo (held mo (ds.take i)))).getD false) (List.range i)
    rw [List.length_range] at this
    omega
   have HLS:=hid' (show (loopsUp mo ds (i + 1)).map Int.ofNat = l ++ (if (holdAB k mo && decide (hd m0 = hd m1)) = true then [(i:Int)] else []) by
    rw [HT2.out.2,List.map_append,← hl]
    split <;> rfl)
   rw [← hl] at H
   clear hl
   obtain ⟨e0,e1,e2,e3,e4,e5,e6,e7,e8,e9,e10,e11,e12⟩:=(hV wr H.out.1.1).1
   have HV:=hid' hV
   have HCD:=hid' hcd
   have HB1:=hid' hlt.2
   have h0n:0 < nn:=by have:=hlt.1; omega
   have h1n:(1:Int) < (nn:Int):=by have:=hlt.1; omega
   clear hkm hlt hcd hV
   have kD:=(Kept.refl wr).alloc (.cells #[.int .u8 k,.string s,.slice (some ⟨nb,noff,none⟩) nn cn,.int .i64 rf,.int .i64 vm,.int .i64 vx,.int .i64 wk,.slice av nv cv,.slice ai ni ci,.string ms,.int .u8 mk,.slice a1 n1 c1,.slice a2 n2 c2] 41)
   have hD:=RowL.alloc 41 wr [.int .u8 k,.string s,.slice (some ⟨nb,noff,none⟩) nn cn,.int .i64 rf,.int .i64 vm,.int .i64 vx,.int .i64 wk,.slice av nv cv,.slice ai ni ci,.string ms,.int .u8 mk,.slice a1 n1 c1,.slice a2 n2 c2]
   go_upto_region 6 with fail
   have HK:=hid' (H.out.1.1.trans kD)
   have HR:=hid' (H.out.1.2.2.2.kept kD)
   have HGr:=hid' (And.intro H.out.1.2.1 H.out.1.2.2.1)
   have HO:=hid' (show OwnI B _ u6 l from World.ownsRow.alloc H.out.2.2 (.cells #[.int .u8 k,.string s,.slice (some ⟨nb,noff,none⟩) nn cn,.int .i64 rf,.int .i64 vm,.int .i64 vx,.int .i64 wk,.slice av nv cv,.slice ai ni ci,.string ms,.int .u8 mk,.slice a1 n1 c1,.slice a2 n2 c2] 41))
   have HBs:=hid' (Nat.le_trans H.out.2.1 kD.size)
   have hgq:¬ wr.heap.size = g:=by have:=H.out.1.2.2.2.lt; omega
   generalize wr.alloc (.cells #[.int .u8 k,.string s,.slice (some ⟨nb,noff,none⟩) nn cn,.int .i64 rf,.int .i64 vm,.int .i64 vx,.int .i64 wk,.slice av nv cv,.slice ai ni ci,.string ms,.int .u8 mk,.slice a1 n1 c1,.slice a2 n2 c2] 41) = W2 at kD hD HK HR HO HBs ⊢
   obtain ⟨q,hq⟩:∃ q,q = wr.heap.size:=⟨_,rfl⟩
   have hqB:B≤q:=by rw [hq]; exact H.out.2.1
   rw [← hq] at hD hgq ⊢
   have HD:=hid' hD
   have HQB:=hid' hqB
   have g0:=hD.cell 0 (.int .u8 k)
   clear kD hD hq hqB e0 e1 e2 e3 e4 e5 e6 e7 e8 e9 e10 e11 e12 H HCD
   --%R5
   go_wp2_with fail
   refine (holdAB_any k mo _).mono ?_
   rintro e w3 ⟨rfl,rfl⟩
   clear g0
   cases hb1:holdAB k mo with
   | false =>
    --%A
    have HH:=hid' (show held mo (ds.take (i + 1)) = hd by rw [HT2.out.1,hb1]; rfl)
    rw [hb1] at HLS
    clear hb1 HT2
    go_wp2_with fail
    go_roundw
    case rel => exact ⟨i + 1,_,_,_,by omega,rfl,by go_num,⟨HK.out,(by rw [HH.out]; exact HGr.out.1),HGr.out.2,HR.out⟩,HBs.out,by rw [HLS.out]; simpa using HO.out⟩
    case measure => show dn - ((i:Int) + 1).toNat < dn - (i:Int).toNat; omega
   | true =>
    --%B
    have HH:=hid' (show held mo (ds.take (i + 1)) = joinH hd m0 m1 by rw [HT2.out.1,hb1]; rfl)
    rw [hb1,Bool.true_and] at HLS
    clear hb1 HT2
    go_upto_region 7 with fail
    have sS:=hid' (fun (V:World) (K:Kept w V) (R:RowL 41 V q [.int .u8 k,.string s,.slice (some ⟨nb,noff,none⟩) nn cn,.int .i64 rf,.int .i64 vm,.int .i64 vx,.int .i64 wk,.slice av nv cv,.slice ai ni ci,.string ms,.int .u8 mk,.slice a1 n1 c1,.slice a2 n2 c2]) => And.intro (R.cell 2 (.slice (some ⟨nb,noff,none⟩) nn cn)) ((HV.out V K).2.1))
    have kd:Kept w3 w3.drew:=(Kept.refl _).drew
    have HK:=hid' (HK.out.trans kd)
    have HD:=hid' (HD.out.kept kd)
    have HR:=hid' (HR.out.kept kd)
    have HO:=hid' (show OwnI B w3.drew u6 l from World.ownsRow.drew HO.out)
    have HBs:=hid' (Nat.le_trans HBs.out kd.size)
    refine wp_region_held_drew (S:=fun w' => w'.cell? ⟨q,2,none⟩ = some (.slice (some ⟨nb,noff,none⟩) nn cn)∧w'.cell? ⟨nb,noff,none⟩ = some (.int .i64 (m0:Int))∧w'.cell? ⟨nb,noff + 1,none⟩ = some (.int .i64 (m1:Int))) (by kernel_rfl) (sS.out _ HK.out HD.out) (fun hHeld => ?_)
    clear kd
    generalize w3.drew = Wd1 at HK HD HR HO HBs hHeld ⊢
    --%J0
    refine tk 0 hHeld ?_
    refine tk 1 hHeld ?_
    refine tk 2 hHeld ?_
    refine tk 3 hHeld ?_
    refine tk 4 hHeld ?_
    refine tk 5 hHeld ?_
    refine tk 6 hHeld ?_
    refine tk 7 hHeld ?_
    refine tk 8 hHeld ?_
    --%J1
    refine rdy 9 fun K hK => ?_
    go_simp
    --%J2
    have hj:=joined_any g fn fn m0 m1 L hd D _ HGr.out.1 HGr.out.2 HB1.out.1 HB1.out.2 HR.out
    refine hj.mono ?_
    rintro e w5 ⟨rfl,rfl⟩
    refine hK.out _ _ (sS.out _ HK.out HD.out) (fun hHeld => ?_)
    clear hK K
    refine _root_.Go.Proofs.YtcggopolokekkaaGreatDoor.dn ?_
    clear hHeld sS hj
    by_cases e:hd m0 = hd m1
    ·
     --%C
     rw [decide_eq_true e,if_pos rfl] at HLS
     rw [decide_eq_true e]
     clear e
     go_upto_region 8 with fail
     go_wp2_with (at_builtin; refine wpList_append_lies _ rfl (.tmp 36) (.tmp 38) 30 rfl B 3 i0 (.int .i64 0) 1 8 und_ints hi hz0 hz1 hz2 rfl (by decide) u6 l.length (l.map (Value.int .i64)) rfl (by exact World.ownsRow.alloc HO.out _) ⟨w5.heap.size,0,none⟩ 1 1 [.int .i64 (i:Int)] rfl rfl (X.cell_new w5 _ _) (fun u hu => by simp at hu; subst hu; rfl) (by omega) (by unfold maxLen; omega) (by omega) (by have:=HBs.out; simp; omega) _ rfl ?_)
     intro g4 cap4 W4 own4 hg4 hgg _
     have KT:=(Kept.refl w5).alloc (.cells #[.int .i64 (i:Int)] 3)
     have hb4:∀ k,u6.ownBlock = some k→B≤k:=fun k hk => (World.ownsRow.lt (show OwnI B _ u6 l from HO.out) k hk).1
     have hnq:u6.ownBlock ≠ some q:=own_row HO.out HD.out (by decide)
     have HK:=hid' (show Kept w W4 from Below.grown (HK.out.trans KT) hg4 (Nat.le_trans HK.out.size KT.size) (fun k hk => Nat.le_trans HBw.out (hb4 k hk)))
     have HR:=hid' ((HR.out.kept KT).block (hg4.block g (HR.out.kept KT).lt (fun e => by have:=hb4 g e.symm; have:=HB.out; omega)))
     have HD:=hid' ((HD.out.kept KT).block (hg4.block q (HD.out.kept KT).lt (fun e => hnq e.symm)))
     have HBs:=hid' (show B≤W4.heap.size from Nat.le_trans HBs.out (Nat.le_trans KT.size hg4.size))
     have HO:=hid' (OwnI.snoc own4)
     clear own4 hg4 hgg KT hb4 hnq
     obtain ⟨lw,hlw⟩:∃ x,x = (Value.slice (some ⟨g4,0,none⟩) (l.length + 1) cap4):=⟨_,rfl⟩
     rw [← hlw] at HO
     have HLW:=hid' hlw
     clear hlw
     --%C2
     go_upto_region 9 with fail
     have sS:=hid' (fun (V:World) (K:Kept w V) (R:RowL 41 V q [.int .u8 k,.string s,.slice (some ⟨nb,noff,none⟩) nn cn,.int .i64 rf,.int .i64 vm,.int .i64 vx,.int .i64 wk,.slice av nv cv,.slice ai ni ci,.string ms,.int .u8 mk,.slice a1 n1 c1,.slice a2 n2 c2]) => And.intro (R.cell 2 (.slice (some ⟨nb,noff,none⟩) nn cn)) ((HV.out V K).2.1))
     have kd:Kept W4 W4.drew:=(Kept.refl _).drew
     have HK:=hid' (HK.out.trans kd)
     have HD:=hid' (HD.out.kept kd)
     have HR:=hid' (HR.out.kept kd)
     have HBs:=hid' (Nat.le_trans HBs.out kd.size)
     have HO:=hid' (show OwnI B W4.drew lw _ from World.ownsRow.drew HO.out)
     refine wp_region_held_drew (S:=fun w' => w'.cell? ⟨q,2,none⟩ = some (.slice (some ⟨nb,noff,none⟩) nn cn)∧w'.cell? ⟨nb,noff,none⟩ = some (.int .i64 (m0:Int))∧w'.cell? ⟨nb,noff + 1,none⟩ = some (.int .i64 (m1:Int))) (by kernel_rfl) (sS.out _ HK.out HD.out) (fun hHeld => ?_)
     clear kd
     generalize W4.drew = Wd2 at HK HD HR HO HBs hHeld ⊢
     --%J0
     refine tk 0 hHeld ?_
     refine tk 1 hHeld ?_
     refine tk 2 hHeld ?_
     refine tk 3 hHeld ?_
     refine tk 4 hHeld ?_
     refine tk 5 hHeld ?_
     refine tk 6 hHeld ?_
     refine tk 7 hHeld ?_
     refine tk 8 hHeld ?_
     --%J1
     refine rdy 9 fun K hK => ?_
     go_simp
     --%J2
     have hj:=join_any g fn fn m0 m1 L hd D _ HGr.out.1 HGr.out.2 HB1.out.1 HB1.out.2 HR.out
     refine hj.mono ?_
     rintro e v2 ⟨rfl,hw5,hrow⟩
     have HK:=hid' (show Kept w v2 by rw [hw5]; exact HK.out.setCell (p:=⟨g,_,none⟩) HG.out _)
     have HD:=hid' (show RowL 41 v2 q [.int .u8 k,.string s,.slice (some ⟨nb,noff,none⟩) nn cn,.int .i64 rf,.int .i64 vm,.int .i64 vx,.int .i64 wk,.slice av nv cv,.slice ai ni ci,.string ms,.int .u8 mk,.slice a1 n1 c1,.slice a2 n2 c2] by rw [hw5]; exact HD.out.far (fun e => hgq e) _ _)
     have HO:=hid' (show OwnI B v2 lw _ by rw [hw5]; exact ownsRow_setCell_below HO.out (a:=⟨g,_,none⟩) HB.out _)
     have HBs:=hid' (show B≤v2.heap.size by rw [hw5]; simpa [World.setCell] using HBs.out)
     refine hK.out _ _ (sS.out _ HK.out HD.out) (fun hHeld => ?_)
     clear hK K
     refine _root_.Go.Proofs.YtcggopolokekkaaGreatDoor.dn ?_
     have HR:=hid' hrow
     have HGr:=hid' (gr_join HGr.out HB1.out.1 HB1.out.2)
     clear hrow hw5 hHeld sS hj
     go_wp2_with fail
     go_roundw
     case rel => exact ⟨i + 1,_,_,_,by omega,rfl,by go_num,⟨HK.out,(by rw [HH.out]; exact HGr.out.1),HGr.out.2,HR.out⟩,HBs.out,by rw [HLS.out]; exact (by rw [← HLW.out]; exact HO.out)⟩
     case measure => show dn - ((i:Int) + 1).toNat < dn - (i:Int).toNat; omega
    ·
     --%D
     rw [decide_eq_false e,if_neg (by decide),List.append_nil] at HLS
     rw [decide_eq_false e]
     clear e
     go_upto_region 9 with fail
     have sS:=hid' (fun (V:World) (K:Kept w V) (R:RowL 41 V q [.int .u8 k,.string s,.slice (some ⟨nb,noff,none⟩) nn cn,.int .i64 rf,.int .i64 vm,.int .i64 vx,.int .i64 wk,.slice av nv cv,.slice ai ni ci,.string ms,.int .u8 mk,.slice a1 n1 c1,.slice a2 n2 c2]) => And.intro (R.cell 2 (.slice (some ⟨nb,noff,none⟩) nn cn)) ((HV.out V K).2.1))
     have kd:Kept w5 w5.drew:=(Kept.refl _).drew
     have HK:=hid' (HK.out.trans kd)
     have HD:=hid' (HD.out.kept kd)
     have HR:=hid' (HR.out.kept kd)
     have HBs:=hid' (Nat.le_trans HBs.out kd.size)
     have HO:=hid' (show OwnI B w5.drew u6 _ from World.ownsRow.drew HO.out)
     refine wp_region_held_drew (S:=fun w' => w'.cell? ⟨q,2,none⟩ = some (.slice (some ⟨nb,noff,none⟩) nn cn)∧w'.cell? ⟨nb,noff,none⟩ = some (.int .i64 (m0:Int))∧w'.cell? ⟨nb,noff + 1,none⟩ = some (.int .i64 (m1:Int))) (by kernel_rfl) (sS.out _ HK.out HD.out) (fun hHeld => ?_)
     clear kd
     generalize w5.drew = Wd2 at HK HD HR HO HBs hHeld ⊢
     --%J0
     refine tk 0 hHeld ?_
     refine tk 1 hHeld ?_
     refine tk 2 hHeld ?_
     refine tk 3 hHeld ?_
     refine tk 4 hHeld ?_
     refine tk 5 hHeld ?_
     refine tk 6 hHeld ?_
     refine tk 7 hHeld ?_
     refine tk 8 hHeld ?_
     --%J1
     refine rdy 9 fun K hK => ?_
     go_simp
     --%J2
     have hj:=join_any g fn fn m0 m1 L hd D _ HGr.out.1 HGr.out.2 HB1.out.1 HB1.out.2 HR.out
     refine hj.mono ?_
     rintro e v2 ⟨rfl,hw5,hrow⟩
     have HK:=hid' (show Kept w v2 by rw [hw5]; exact HK.out.setCell (p:=⟨g,_,none⟩) HG.out _)
     have HD:=hid' (show RowL 41 v2 q [.int .u8 k,.string s,.slice (some ⟨nb,noff,none⟩) nn cn,.int .i64 rf,.int .i64 vm,.int .i64 vx,.int .i64 wk,.slice av nv cv,.slice ai ni ci,.string ms,.int .u8 mk,.slice a1 n1 c1,.slice a2 n2 c2] by rw [hw5]; exact HD.out.far (fun e => hgq e) _ _)
     have HO:=hid' (show OwnI B v2 u6 _ by rw [hw5]; exact ownsRow_setCell_below HO.out (a:=⟨g,_,none⟩) HB.out _)
     have HBs:=hid' (show B≤v2.heap.size by rw [hw5]; simpa [World.setCell] using HBs.out)
     refine hK.out _ _ (sS.out _ HK.out HD.out) (fun hHeld => ?_)
     clear hK K
     refine _root_.Go.Proofs.YtcggopolokekkaaGreatDoor.dn ?_
     have HR:=hid' hrow
     have HGr:=hid' (gr_join HGr.out HB1.out.1 HB1.out.2)
     clear hrow hw5 hHeld sS hj
     go_wp2_with fail
     go_roundw
     case rel => exact ⟨i + 1,_,_,_,by omega,rfl,by go_num,⟨HK.out,(by rw [HH.out]; exact HGr.out.1),HGr.out.2,HR.out⟩,HBs.out,by rw [HLS.out]; exact HO.out⟩
     case measure => show dn - ((i:Int) + 1).toNat < dn - (i:Int).toNat; omega
  ·
   --%E
   have hii:¬ (i:Int) < (dn:Int):=by omega
   obtain rfl:i = dn:=by omega
   have HF:=hid' (And.intro H.out.1.1 (show OwnI B wr u6 (lf.map Int.ofNat) by rw [HLL.out]; exact H.out.2.2))
   clear H
   go_wp2_with fail
   go_ret
   exact ⟨HF.out.1,_,rfl,own_mono HF.out.2 HBw.out⟩
end V
end Go.Proofs.YtcggopolokekkaaGreatDoor

namespace Go.Proofs.YtcggopolokekkaaGreatDoor
open Go.RowKit
namespace V
open Q (hid' Lett ErrV Tab)
open X (RS OwnS strs)
theorem ref_ok {fm fx fk mo:Int} {ns:List (List UInt8)} {ds:List DE} (h:refT fm fx fk ns ds mo = 0):(∀ d ∈ ds,endsB ns.length d.kind d.nodes = true)∧1≤ns.length∧ns.length≤32∧ds.length≤64:=by
 have hc:chkF fm fx fk ns ds = 0:=by
  unfold refT at h
  split at h
  ·
   assumption
  ·
   exact h
 have hb:(fsetB fm fx fk && (nodesB ns && fdevsB ns.length fm fx fk ds)) = true:=by
  cases hb:(fsetB fm fx fk && (nodesB ns && fdevsB ns.length fm fx fk ds)) with
  | true => rfl
  | false => rw [chkF_bad hb] at hc; cases hc
 rw [Bool.and_eq_true,Bool.and_eq_true] at hb
 obtain ⟨_,hn,hd⟩:=hb
 unfold nodesB at hn
 rw [Bool.and_eq_true,decide_eq_true_eq] at hn
 unfold fdevsB at hd
 rw [Bool.and_eq_true,Bool.and_eq_true,decide_eq_true_eq,List.all_eq_true] at hd
 refine ⟨fun d hm => ?_,hn.1.1,hn.1.2,hd.1⟩
 have:=hd.2.1 d hm
 unfold fdevB at this
 rw [Bool.and_eq_true] at this
 exact this.1
def floR (fm fx fk:Int) (ns:List (List UInt8)) (ds:List DE) (mo:Int):List Int:=if refT fm fx fk ns ds mo = 0 then (floatsL ns.length (tied mo ds)).map Int.ofNat else []
def looR (fm fx fk:Int) (ns:List (List UInt8)) (ds:List DE) (mo:Int):List Int:=if refT fm fx fk ns ds mo = 0 then (loopsL mo ds).map Int.ofNat else []
theorem floR_len (fm fx fk:Int) (ns:List (List UInt8)) (ds:List DE) (mo:Int):(floR fm fx fk ns ds mo).length≤32:=by
 unfold floR
 split
 ·
  rename_i h
  have:=(ref_ok h).2.2.1
  have h2:=List.length_filter_le (fun x => !decide (tied mo ds x = tied mo ds 0)) (List.range ns.length)
  rw [List.length_range] at h2
  rw [List.length_map]
  unfold floatsL
  omega
 ·
  exact Nat.zero_le _
theorem looR_len (fm fx fk:Int) (ns:List (List UInt8)) (ds:List DE) (mo:Int):(looR fm fx fk ns ds mo).length≤64:=by
 unfold looR
 split
 ·
  rename_i h
  have:=(ref_ok h).2.2.2
  have h2:=List.length_filter_le (fun i => (ds[i]?.map (closesB mo (held mo (ds.take i)))).getD false) (List.range ds.length)
  rw [List.length_range] at h2
  rw [List.length_map]
  unfold loopsL
  omega
 ·
  exact Nat.zero_le _
def tchk (fm fx fk:Int) (ns:List (List UInt8)) (ds:List DE) (mo:Int):Int:=if refT fm fx fk ns ds mo = 0 then (if (floR fm fx fk ns ds mo).length = 0 then (if (looR fm fx fk ns ds mo).length = 0 then 0 else 101) else 100) else refT fm fx fk ns ds mo
set_option maxRecDepth 100000 in
set_option maxHeartbeats 8000000 in
theorem Floats_any (fa:Option Addr) (fn fc:Nat) (da:Option Addr) (dn dc:Nat) (fm fx fk:Int) (mo:Int) (ns:List (List UInt8)) (ds:List DE) (w:World) (hns:RS w (.slice fa fn fc) ns) (hcap:fn≤fc) (hbig:fc≤9223372036854775807) (hs:∀ x ∈ ns,x.length≤4611686018427387903) (h:DsR w (.slice da dn dc) ds) (hz:∀ d ∈ ds,d.sz) (hL:Lett w) (hE:ErrV w) (hT:Tab w) :
  Calls Tryz.prog 6 #[.agg #[.slice fa fn fc,.slice da dn dc,.int .i64 fm,.int .i64 fx,.int .i64 fk],.int .i64 mo] w fun e w' => Kept w w'∧∃ ao n c,e = .returned (.tuple #[.slice ao n c,.int .i64 (refT fm fx fk ns ds mo)])∧n = (floR fm fx fk ns ds mo).length∧OwnI w.heap.size w' (.slice ao n c) (floR fm fx fk ns ds mo):=by
 obtain ⟨z,hzz⟩:∃ z,z = refT fm fx fk ns ds mo:=⟨_,rfl⟩
 have hf:fn = ns.length:=by obtain ⟨_,_,e,_⟩:=hns; simp at e; exact e.2.1
 have hn:dn = ds.length:=by have:=h.1.len; rw [List.length_map] at this; exact this
 have kA:=(Kept.refl w).alloc (.cells #[.slice fa fn fc,.slice da dn dc,.int .i64 fm,.int .i64 fx,.int .i64 fk] 27)
 have HC:=hid' (refused_any fa fn fc da dn dc fm fx fk mo ns ds _ (hns.kept kA) hcap hbig hs (h.kept kA) hz (hL.kept kA) (hE.kept kA) (hT.kept kA))
 have HD:=hid' h
 have HO:=hid' (fun (e:z = 0) => show (∀ d ∈ ds,endsB fn d.kind d.nodes = true)∧1≤fn∧fn≤1000000∧dn≤1000000 by
  obtain ⟨h1,h2,h3,h4⟩:=ref_ok (hzz.symm.trans e)
  rw [hf,hn]
  exact ⟨h1,h2,by omega,by omega⟩)
 have HNF:=hid' hf
 have hA:=RowL.alloc 27 w [.slice fa fn fc,.slice da dn dc,.int .i64 fm,.int .i64 fx,.int .i64 fk]
 obtain ⟨R,hR⟩:∃ R,R = floR fm fx fk ns ds mo:=⟨_,rfl⟩
 have HR:=hid' (show R = if z = 0 then (floatsL ns.length (tied mo ds)).map Int.ofNat else [] by rw [hR,hzz]; rfl)
 rw [← hzz] at HC
 rw [← hzz,← hR]
 clear hR
 clear hns hcap hbig hs h hz hL hE hT hf hn hzz
 go_enter Tryz.func6,Tryz.ntmps6
 go_upto_region 1 with fail
 generalize w.alloc (.cells #[.slice fa fn fc,.slice da dn dc,.int .i64 fm,.int .i64 fx,.int .i64 fk] 27) = W at kA hA HC ⊢
 obtain ⟨p,hp⟩:∃ q,q = w.heap.size:=⟨_,rfl⟩
 rw [← hp] at hA ⊢
 have HF:=hid' hA
 have HK:=hid' kA
 have HP:=hid' hp
 clear kA hA hp
 have f0:=HF.out.cell 0 (.slice fa fn fc)
 have f1:=HF.out.cell 1 (.slice da dn dc)
 have f2:=HF.out.cell 2 (.int .i64 fm)
 have f3:=HF.out.cell 3 (.int .i64 fx)
 have f4:=HF.out.cell 4 (.int .i64 fk)
 go_wp2_with fail
 refine HC.out.mono ?_
 rintro e w1 ⟨hk,rfl⟩
 have HF:=hid' (HF.out.kept hk)
 have HK:=hid' (HK.out.trans hk)
 clear hk f0 f1 f2 f3 f4 HC
 by_cases h0:z = 0
 ·
  subst h0
  obtain ⟨o1,o2,o3,o4⟩:=HO.out rfl
  have HE:=hid' o1
  have HRR:=hid' (show R = (floatsL fn (tied mo ds)).map Int.ofNat by rw [HR.out,if_pos rfl]; rw [HNF.out])
  clear o1 HO HR
  have f0:=HF.out.cell 0 (.slice fa fn fc)
  have f1:=HF.out.cell 1 (.slice da dn dc)
  have f2:=HF.out.cell 2 (.int .i64 fm)
  have f3:=HF.out.cell 3 (.int .i64 fx)
  have f4:=HF.out.cell 4 (.int .i64 fk)
  go_wp2_with fail
  refine (floating_any fa fn fc da dn dc fm fx fk mo ds _ (HD.out.kept HK.out) HE.out o2 o3 o4).mono ?_
  rintro e w2 ⟨hk,v,rfl,hv⟩
  rw [← HRR.out] at hv
  obtain ⟨ao,cap,hvs⟩:=own_shape hv
  obtain ⟨n,hn⟩:∃ n,n = R.length:=⟨_,rfl⟩
  rw [← hn] at hvs
  subst hvs
  have HV:=hid' (And.intro hn (own_mono hv HK.out.size))
  have HK:=hid' (HK.out.trans hk)
  clear hk hv hn f0 f1 f2 f3 f4
  go_wp2_with fail
  go_ret2
  exact ⟨HK.out,_,_,_,rfl,HV.out.1,HV.out.2⟩
 ·
  have b0:(z != 0) = true:=by simpa using h0
  have HRR:=hid' (show R = [] by rw [HR.out,if_neg h0])
  clear h0 HR
  go_wp2_with fail
  go_ret2
  exact ⟨HK.out,none,0,0,rfl,by rw [HRR.out]; rfl,by rw [HRR.out]; exact World.ownsRow_nil _ _ _ _⟩
set_option maxRecDepth 100000 in
set_option maxHeartbeats 8000000 in
theorem Loops_any (fa:Option Addr) (fn fc:Nat) (da:Option Addr) (dn dc:Nat) (fm fx fk:Int) (mo:Int) (ns:List (List UInt8)) (ds:List DE) (w:World) (hns:RS w (.slice fa fn fc) ns) (hcap:fn≤fc) (hbig:fc≤9223372036854775807) (hs:∀ x ∈ ns,x.length≤4611686018427387903) (h:DsR w (.slice da dn dc) ds) (hz:∀ d ∈ ds,d.sz) (hL:Lett w) (hE:ErrV w) (hT:Tab w) :
  Calls Tryz.prog 7 #[.agg #[.slice fa fn fc,.slice da dn dc,.int .i64 fm,.int .i64 fx,.int .i64 fk],.int .i64 mo] w fun e w' => Kept w w'∧∃ ao n c,e = .returned (.tuple #[.slice ao n c,.int .i64 (refT fm fx fk ns ds mo)])∧n = (looR fm fx fk ns ds mo).length∧OwnI w.heap.size w' (.slice ao n c) (looR fm fx fk ns ds mo):=by
 obtain ⟨z,hzz⟩:∃ z,z = refT fm fx fk ns ds mo:=⟨_,rfl⟩
 have hf:fn = ns.length:=by obtain ⟨_,_,e,_⟩:=hns; simp at e; exact e.2.1
 have hn:dn = ds.length:=by have:=h.1.len; rw [List.length_map] at this; exact this
 have kA:=(Kept.refl w).alloc (.cells #[.slice fa fn fc,.slice da dn dc,.int .i64 fm,.int .i64 fx,.int .i64 fk] 27)
 have HC:=hid' (refused_any fa fn fc da dn dc fm fx fk mo ns ds _ (hns.kept kA) hcap hbig hs (h.kept kA) hz (hL.kept kA) (hE.kept kA) (hT.kept kA))
 have HD:=hid' h
 have HO:=hid' (fun (e:z = 0) => show (∀ d ∈ ds,endsB fn d.kind d.nodes = true)∧1≤fn∧fn≤1000000∧dn≤1000000 by
  obtain ⟨h1,h2,h3,h4⟩:=ref_ok (hzz.symm.trans e)
  rw [hf,hn]
  exact ⟨h1,h2,by omega,by omega⟩)
 have HNF:=hid' hf
 have hA:=RowL.alloc 27 w [.slice fa fn fc,.slice da dn dc,.int .i64 fm,.int .i64 fx,.int .i64 fk]
 obtain ⟨R,hR⟩:∃ R,R = looR fm fx fk ns ds mo:=⟨_,rfl⟩
 have HR:=hid' (show R = if z = 0 then (loopsL mo ds).map Int.ofNat else [] by rw [hR,hzz]; rfl)
 rw [← hzz] at HC
 rw [← hzz,← hR]
 clear hR
 clear hns hcap hbig hs h hz hL hE hT hf hn hzz
 go_enter Tryz.func7,Tryz.ntmps7
 go_upto_region 1 with fail
 generalize w.alloc (.cells #[.slice fa fn fc,.slice da dn dc,.int .i64 fm,.int .i64 fx,.int .i64 fk] 27) = W at kA hA HC ⊢
 obtain ⟨p,hp⟩:∃ q,q = w.heap.size:=⟨_,rfl⟩
 rw [← hp] at hA ⊢
 have HF:=hid' hA
 have HK:=hid' kA
 have HP:=hid' hp
 clear kA hA hp
 have f0:=HF.out.cell 0 (.slice fa fn fc)
 have f1:=HF.out.cell 1 (.slice da dn dc)
 have f2:=HF.out.cell 2 (.int .i64 fm)
 have f3:=HF.out.cell 3 (.int .i64 fx)
 have f4:=HF.out.cell 4 (.int .i64 fk)
 go_wp2_with fail
 refine HC.out.mono ?_
 rintro e w1 ⟨hk,rfl⟩
 have HF:=hid' (HF.out.kept hk)
 have HK:=hid' (HK.out.trans hk)
 clear hk f0 f1 f2 f3 f4 HC
 by_cases h0:z = 0
 ·
  subst h0
  obtain ⟨o1,_,o3,o4⟩:=HO.out rfl
  have HE:=hid' o1
  have HRR:=hid' (show R = (loopsL mo ds).map Int.ofNat by rw [HR.out,if_pos rfl])
  clear o1 HO HR
  have f0:=HF.out.cell 0 (.slice fa fn fc)
  have f1:=HF.out.cell 1 (.slice da dn dc)
  have f2:=HF.out.cell 2 (.int .i64 fm)
  have f3:=HF.out.cell 3 (.int .i64 fx)
  have f4:=HF.out.cell 4 (.int .i64 fk)
  go_wp2_with fail
  refine (closing_any fa fn fc da dn dc fm fx fk mo ds _ (HD.out.kept HK.out) HE.out o3 o4).mono ?_
  rintro e w2 ⟨hk,v,rfl,hv⟩
  rw [← HRR.out] at hv
  obtain ⟨ao,cap,hvs⟩:=own_shape hv
  obtain ⟨n,hn⟩:∃ n,n = R.length:=⟨_,rfl⟩
  rw [← hn] at hvs
  subst hvs
  have HV:=hid' (And.intro hn (own_mono hv HK.out.size))
  have HK:=hid' (HK.out.trans hk)
  clear hk hv hn f0 f1 f2 f3 f4
  go_wp2_with fail
  go_ret2
  exact ⟨HK.out,_,_,_,rfl,HV.out.1,HV.out.2⟩
 ·
  have b0:(z != 0) = true:=by simpa using h0
  have HRR:=hid' (show R = [] by rw [HR.out,if_neg h0])
  clear h0 HR
  go_wp2_with fail
  go_ret2
  exact ⟨HK.out,none,0,0,rfl,by rw [HRR.out]; rfl,by rw [HRR.out]; exact World.ownsRow_nil _ _ _ _⟩
set_option maxRecDepth 100000 in
set_option maxHeartbeats 8000000 in
theorem TCheck_any (fa:Option Addr) (fn fc:Nat) (da:Option Addr) (dn dc:Nat) (fm fx fk:Int) (mo:Int) (ns:List (List UInt8)) (ds:List DE) (w:World) (hns:RS w (.slice fa fn fc) ns) (hcap:fn≤fc) (hbig:fc≤9223372036854775807) (hs:∀ x ∈ ns,x.length≤4611686018427387903) (h:DsR w (.slice da dn dc) ds) (hz:∀ d ∈ ds,d.sz) (hL:Lett w) (hE:ErrV w) (hT:Tab w) :
  Calls Tryz.prog 9 #[.agg #[.slice fa fn fc,.slice da dn dc,.int .i64 fm,.int .i64 fx,.int .i64 fk],.int .i64 mo] w fun e w' => Kept w w'∧e = .returned (.int .i64 (tchk fm fx fk ns ds mo)):=by
 have HR1:=hid' (fun (e:refT fm fx fk ns ds mo = 0) => show (floR fm fx fk ns ds mo).length = (floatsL ns.length (tied mo ds)).length∧(looR fm fx fk ns ds mo).length = (loopsL mo ds).length by
  unfold floR looR
  rw [if_pos e,if_pos e,List.length_map,List.length_map]
  exact ⟨rfl,rfl⟩)
 obtain ⟨z,hzz⟩:∃ z,z = refT fm fx fk ns ds mo:=⟨_,rfl⟩
 have hf:fn = ns.length:=by obtain ⟨_,_,e,_⟩:=hns; simp at e; exact e.2.1
 have hn:dn = ds.length:=by have:=h.1.len; rw [List.length_map] at this; exact this
 have kA:=(Kept.refl w).alloc (.cells #[.slice fa fn fc,.slice da dn dc,.int .i64 fm,.int .i64 fx,.int .i64 fk] 27)
 have HC:=hid' (refused_any fa fn fc da dn dc fm fx fk mo ns ds _ (hns.kept kA) hcap hbig hs (h.kept kA) hz (hL.kept kA) (hE.kept kA) (hT.kept kA))
 have HD:=hid' h
 have HO:=hid' (fun (e:z = 0) => show (∀ d ∈ ds,endsB fn d.kind d.nodes = true)∧1≤fn∧fn≤1000000∧dn≤1000000 by
  obtain ⟨h1,h2,h3,h4⟩:=ref_ok (hzz.symm.trans e)
  rw [hf,hn]
  exact ⟨h1,h2,by omega,by omega⟩)
 have HNF:=hid' hf
 have hA:=RowL.alloc 27 w [.slice fa fn fc,.slice da dn dc,.int .i64 fm,.int .i64 fx,.int .i64 fk]
 obtain ⟨R,hR⟩:∃ R,R = tchk fm fx fk ns ds mo:=⟨_,rfl⟩
 obtain ⟨nf,hnf⟩:∃ n,n = (floR fm fx fk ns ds mo).length:=⟨_,rfl⟩
 obtain ⟨nl,hnl⟩:∃ n,n = (looR fm fx fk ns ds mo).length:=⟨_,rfl⟩
 have HR:=hid' (show R = if z = 0 then (if nf = 0 then (if nl = 0 then 0 else 101) else 100) else z by rw [hR,hzz,hnf,hnl]; rfl)
 rw [← hzz] at HC HR1
 rw [← hnf,← hnl] at HR1
 rw [← hR]
 clear hR hnf hnl
 clear hns hcap hbig hs h hz hL hE hT hf hn hzz
 go_enter Tryz.func9,Tryz.ntmps9
 go_upto_region 1 with fail
 generalize w.alloc (.cells #[.slice fa fn fc,.slice da dn dc,.int .i64 fm,.int .i64 fx,.int .i64 fk] 27) = W at kA hA HC ⊢
 obtain ⟨p,hp⟩:∃ q,q = w.heap.size:=⟨_,rfl⟩
 rw [← hp] at hA ⊢
 have HF:=hid' hA
 have HK:=hid' kA
 have HP:=hid' hp
 clear kA hA hp
 have f0:=HF.out.cell 0 (.slice fa fn fc)
 have f1:=HF.out.cell 1 (.slice da dn dc)
 have f2:=HF.out.cell 2 (.int .i64 fm)
 have f3:=HF.out.cell 3 (.int .i64 fx)
 have f4:=HF.out.cell 4 (.int .i64 fk)
 go_wp2_with fail
 refine HC.out.mono ?_
 rintro e w1 ⟨hk,rfl⟩
 have HF:=hid' (HF.out.kept hk)
 have HK:=hid' (HK.out.trans hk)
 clear hk f0 f1 f2 f3 f4 HC
 by_cases h0:z = 0
 ·
  subst h0
  obtain ⟨o1,o2,o3,o4⟩:=HO.out rfl
  have HE:=hid' o1
  have HR2:=hid' (show R = if nf = 0 then (if nl = 0 then 0 else 101) else 100 by rw [HR.out,if_pos rfl])
  have HR3:=hid' (HR1.out rfl)
  clear o1 HO HR HR1
  have f0:=HF.out.cell 0 (.slice fa fn fc)
  have f1:=HF.out.cell 1 (.slice da dn dc)
  have f2:=HF.out.cell 2 (.int .i64 fm)
  have f3:=HF.out.cell 3 (.int .i64 fx)
  have f4:=HF.out.cell 4 (.int .i64 fk)
  go_wp2_with fail
  refine (floating_any fa fn fc da dn dc fm fx fk mo ds _ (HD.out.kept HK.out) HE.out o2 o3 o4).mono ?_
  rintro e w2 ⟨hk,v,rfl,hv⟩
  obtain ⟨ao,cap,hvs⟩:=own_shape hv
  rw [List.length_map,HNF.out,← HR3.out.1] at hvs
  subst hvs
  have HF:=hid' (HF.out.kept hk)
  have HK:=hid' (HK.out.trans hk)
  clear hk hv f0 f1 f2 f3 f4
  by_cases hnf:nf = 0
  ·
   subst hnf
   have f0:=HF.out.cell 0 (.slice fa fn fc)
   have f1:=HF.out.cell 1 (.slice da dn dc)
   have f2:=HF.out.cell 2 (.int .i64 fm)
   have f3:=HF.out.cell 3 (.int .i64 fx)
   have f4:=HF.out.cell 4 (.int .i64 fk)
   go_wp2_with fail
   refine (closing_any fa fn fc da dn dc fm fx fk mo ds _ (HD.out.kept HK.out) HE.out o3 o4).mono ?_
   rintro e w3 ⟨hk,v,rfl,hv⟩
   obtain ⟨ao,cap,hvs⟩:=own_shape hv
   rw [List.length_map,← HR3.out.2] at hvs
   subst hvs
   have HK:=hid' (HK.out.trans hk)
   clear hk hv f0 f1 f2 f3 f4
   by_cases hnl:nl = 0
   ·
    subst hnl
    go_wp2_with fail
    go_ret
    exact ⟨HK.out,by rw [HR2.out]; rfl⟩
   ·
    have hnp:(0:Int) < (nl:Int):=by omega
    have HR4:=hid' (show R = 101 by rw [HR2.out]; simp [hnl])
    clear hnl HR2
    go_wp2_with fail
    go_ret
    exact ⟨HK.out,by rw [HR4.out]; rfl⟩
  ·
   have hnp:(0:Int) < (nf:Int):=by omega
   have HR4:=hid' (show R = 100 by rw [HR2.out,if_neg hnf])
   clear hnf HR2
   go_wp2_with fail
   go_ret
   exact ⟨HK.out,by rw [HR4.out]; rfl⟩
 ·
  have b0:(z != 0) = true:=by simpa using h0
  have HR4:=hid' (show R = z by rw [HR.out,if_neg h0])
  clear h0 HR
  go_wp2_with fail
  go_ret
  exact ⟨HK.out,by rw [HR4.out]; rfl⟩
end V
end Go.Proofs.YtcggopolokekkaaGreatDoor

namespace Go.Proofs.YtcggopolokekkaaGreatDoor
open Go.RowKit
namespace V
open X (RS OwnS strs)
def Coarse (f g:Nat→Nat):Prop:=∀ x y,f x = f y→g x = g y
theorem Coarse.refl (f:Nat→Nat):Coarse f f:=fun _ _ h => h
theorem Coarse.join {f g:Nat→Nat} (h:Coarse f g) (a b:Nat):Coarse (joinH f a b) (joinH g a b):=by
 intro x y e
 unfold joinH at e ⊢
 by_cases hx:f x = f b
 ·
  rw [if_pos hx] at e
  rw [if_pos (h x b hx)]
  by_cases hy:f y = f b
  ·
   rw [if_pos (h y b hy)]
  ·
   rw [if_neg hy] at e
   have:=h a y e
   split
   ·
    rfl
   ·
    exact this
 ·
  rw [if_neg hx] at e
  by_cases hy:f y = f b
  ·
   rw [if_pos hy] at e
   have:=h x a e
   rw [if_pos (h y b hy)]
   split
   ·
    rfl
   ·
    exact this
  ·
   rw [if_neg hy] at e
   rw [h x y e]
theorem Coarse.more {f g:Nat→Nat} (h:Coarse f g) (a b:Nat):Coarse f (joinH g a b):=by
 intro x y e
 unfold joinH
 rw [h x y e]
theorem tieAB_up {k:Int} (h:tieAB k 1 = true):tieAB k 2 = true:=by
 unfold tieAB at h ⊢
 split
 ·
  rfl
 ·
  rename_i h1
  rw [if_neg h1] at h
  split
  ·
   rfl
  ·
   rename_i h2
   rw [if_neg h2] at h
   exact h
theorem holdAB_up {k:Int} (h:holdAB k 2 = true):holdAB k 1 = true:=by
 unfold holdAB at h ⊢
 split
 ·
  rfl
 ·
  rename_i h1
  rw [if_neg h1] at h
  split
  ·
   rfl
  ·
   rename_i h2
   rw [if_neg h2] at h
   exact h
theorem tied_coarse (ds:List DE):∀ f g,Coarse f g→Coarse (ds.foldl (fun hd d => tie2 (tie1 1 hd d) d) f) (ds.foldl (fun hd d => tie2 (tie1 2 hd d) d) g):=by
 induction ds with
 | nil => exact fun f g h => h
 | cons d r ih =>
  intro f g h
  refine ih _ _ ?_
  have h1:Coarse (tie1 1 f d) (tie1 2 g d):=by
   unfold tie1
   by_cases h1:tieAB d.kind 1 = true
   ·
    rw [if_pos h1,if_pos (tieAB_up h1)]
    exact h.join _ _
   ·
    rw [if_neg h1]
    split
    ·
     exact h.more _ _
    ·
     exact h
  show Coarse (tie2 _ d) (tie2 _ d)
  unfold tie2
  split
  ·
   exact h1.join _ _
  ·
   exact h1
theorem held_coarse (ds:List DE):∀ f g,Coarse f g→Coarse (ds.foldl (holds 2) f) (ds.foldl (holds 1) g):=by
 induction ds with
 | nil => exact fun f g h => h
 | cons d r ih =>
  intro f g h
  refine ih _ _ ?_
  show Coarse (holds 2 f d) (holds 1 g d)
  unfold holds
  by_cases h1:holdAB d.kind 2 = true
  ·
   rw [if_pos h1,if_pos (holdAB_up h1)]
   exact h.join _ _
  ·
   rw [if_neg h1]
   split
   ·
    exact h.more _ _
   ·
    exact h
theorem filter_sub {α:Type} (p q:α→Bool) (l:List α) (h:∀ x ∈ l,p x = true→q x = true):(l.filter p).Sublist (l.filter q):=by
 have e:l.filter p = (l.filter q).filter p:=by
  rw [List.filter_filter]
  refine List.filter_congr fun x hx => ?_
  cases hp:p x with
  | false => rfl
  | true => rw [h x hx hp]; rfl
 rw [e]
 exact List.filter_sublist
theorem refT_modes (fm fx fk:Int) (ns:List (List UInt8)) (ds:List DE):refT fm fx fk ns ds 2 = refT fm fx fk ns ds 1:=by
 unfold refT
 rw [if_pos (c:=(2:Int) = 1 ∨ (2:Int) = 2) (by decide),if_pos (c:=(1:Int) = 1 ∨ (1:Int) = 2) (by decide)]
theorem flo_modes (fm fx fk:Int) (ns:List (List UInt8)) (ds:List DE):(floR fm fx fk ns ds 2).Sublist (floR fm fx fk ns ds 1):=by
 unfold floR
 rw [refT_modes]
 split
 ·
  refine List.Sublist.map _ (filter_sub _ _ _ fun x _ hp => ?_)
  have hc:=tied_coarse ds _ _ (Coarse.refl fun x => x)
  rw [Bool.not_eq_true',decide_eq_false_iff_not] at hp ⊢
  exact fun e => hp (hc _ _ e)
 ·
  exact List.Sublist.refl _
theorem loo_modes (fm fx fk:Int) (ns:List (List UInt8)) (ds:List DE):(looR fm fx fk ns ds 2).length≤(looR fm fx fk ns ds 1).length:=by
 unfold looR
 rw [refT_modes]
 split
 ·
  refine List.Sublist.length_le (List.Sublist.map _ (filter_sub _ _ _ fun i hi hp => ?_))
  have hl:=List.mem_range.1 hi
  rw [List.getElem?_eq_getElem hl] at hp ⊢
  have hp:closesB 2 (held 2 (ds.take i)) ds[i] = true:=hp
  show closesB 1 (held 1 (ds.take i)) ds[i] = true
  have hc:=held_coarse (ds.take i) _ _ (Coarse.refl fun x => x)
  unfold closesB at hp ⊢
  rw [Bool.and_eq_true,decide_eq_true_eq] at hp ⊢
  exact ⟨holdAB_up hp.1,hc _ _ hp.2⟩
 ·
  exact Nat.le_refl _
end V
end Go.Proofs.YtcggopolokekkaaGreatDoor

namespace Go.Proofs.YtcggopolokekkaaGreatDoor
open Go.RowKit
namespace V
open Q (hid' Lett ErrV Tab)
open X (RS OwnS strs)
theorem isl_row {t:TypeId} {W:World} {p:Nat} {l:List Int} (h:RowL t W p (l.map (Value.int .i64))) (c:Nat):ISl W (.slice (some ⟨p,0,none⟩) l.length c) l :=
 ⟨some ⟨p,0,none⟩,c,rfl,fun _ => ⟨p,0,rfl,h.lt,fun j hj => by rw [Nat.zero_add]; exact h.cell j _ (by simp [hj])⟩⟩
theorem nsl_row {t:TypeId} {W:World} {p:Nat} {l:List (Int × Int)} (h:RowL t W p (ncs l)) (c:Nat):NSl W (.slice (some ⟨p,0,none⟩) l.length c) l :=
 ⟨some ⟨p,0,none⟩,c,rfl,fun _ => ⟨p,0,rfl,h.lt,fun j hj => by
  rw [Nat.zero_add]
  exact ⟨h.cell _ _ (ncs_at l j hj).1,h.cell _ _ (ncs_at l j hj).2⟩⟩⟩
theorem rs_row {t:TypeId} {W:World} {p:Nat} {l:List (List UInt8)} (h:RowL t W p (strs l)) (c:Nat):RS W (.slice (some ⟨p,0,none⟩) l.length c) l :=
 ⟨some ⟨p,0,none⟩,c,rfl,fun _ => ⟨p,0,rfl,h.lt,fun j hj => by
  rw [Nat.zero_add]
  exact h.cell j _ (by unfold strs; simp [hj])⟩⟩
theorem flatten_at (sz:Nat) (L:List (List Value)) (hl:∀ x ∈ L,x.length = sz):∀ j,j < L.length→∀ i,i < sz→L.flatten[j * sz + i]? = some ((L.getD j []).getD i undef):=by
 induction L with
 | nil => intro j h; simp at h
 | cons x r ih =>
  intro j hj i hi
  have hx:=hl x (List.mem_cons_self ..)
  rw [List.flatten_cons]
  cases j with
  | zero =>
   rw [Nat.zero_mul,Nat.zero_add,List.getElem?_append_left (by omega),List.getD_cons_zero,List.getD_eq_getElem?_getD,List.getElem?_eq_getElem (by omega)]
   rfl
  | succ j =>
   rw [List.getElem?_append_right (by rw [hx,Nat.succ_mul]; omega),hx,show (j + 1) * sz + i - sz = j * sz + i by rw [Nat.succ_mul]; omega,List.getD_cons_succ]
   exact ih (fun y hy => hl y (List.mem_cons_of_mem _ hy)) j (by simpa using hj) i hi
theorem rows_row {t:TypeId} {W:World} {p sz:Nat} {L:List (List Value)} (h:RowL t W p L.flatten) (hl:∀ x ∈ L,x.length = sz) (c:Nat):RowsR sz W (.slice (some ⟨p,0,none⟩) L.length c) L :=
 ⟨some ⟨p,0,none⟩,c,rfl,fun _ => ⟨p,0,rfl,h.lt,fun j hj i hi => by
  rw [Nat.zero_add]
  exact h.cell _ _ (flatten_at sz L hl j hj i hi)⟩⟩
def deA1 (h:Nat):DE:=⟨118,[118,49],[1,0],some ⟨h + 1 + 1,0,none⟩,2,0,0,0,1,[(1,0)],some ⟨h + 1 + 1 + 1,0,none⟩,1,[],none,0,⟨[],0,[],[]⟩,none,0,none,0⟩
def deA2 (h:Nat):DE:=⟨99,[99,49],[2,0],some ⟨h + 1 + 1 + 1 + 1,0,none⟩,2,0,1,0,0,[],none,0,[],none,0,⟨[],0,[],[]⟩,none,0,none,0⟩
def deA3 (h:Nat):DE:=⟨108,[108,49],[1,0],some ⟨h + 1 + 1 + 1 + 1 + 1,0,none⟩,2,0,1,0,0,[],none,0,[],none,0,⟨[],0,[],[]⟩,none,0,none,0⟩
def nsA:List (List UInt8):=[[48],[97],[98]]
def dsA (h:Nat):List DE:=[deA1 h,deA2 h,deA3 h]
theorem nil_isl (W:World):ISl W (.slice none 0 0) []:=⟨none,0,rfl,fun h => absurd h (by decide)⟩
theorem nil_nsl (W:World):NSl W (.slice none 0 0) []:=⟨none,0,rfl,fun h => absurd h (by decide)⟩
theorem awake_world (w:World):Kept w ((((((((w.alloc (.cells #[.int .i64 1,.int .i64 0] 25)).alloc (.cells #[.string ⟨#[48]⟩,.string ⟨#[97]⟩,.string ⟨#[98]⟩] 9)).alloc (.cells #[.int .i64 1,.int .i64 0] 3)).alloc (.cells #[.int .i64 1,.int .i64 0] 25)).alloc (.cells #[.int .i64 2,.int .i64 0] 3)).alloc (.cells #[.int .i64 1,.int .i64 0] 3)).alloc (.cells #[.int .u8 118,.string ⟨#[118,49]⟩,.slice (some ⟨w.heap.size + 1 + 1,0,none⟩) 2 2,.int .i64 0,.int .i64 0,.int .i64 0,.int .i64 1,.slice (some ⟨w.heap.size + 1 + 1 + 1,0,none⟩) 1 1,.slice none 0 0,.string ⟨#[]⟩,.int .u8 0,.slice none 0 0,.slice none 0 0,.int .u8 99,.string ⟨#[99,49]⟩,.slice (some ⟨w.heap.size + 1 + 1 + 1 + 1,0,none⟩) 2 2,.int .i64 0,.int .i64 1,.int .i64 0,.int .i64 0,.slice none 0 0,.slice none 0 0,.string ⟨#[]⟩,.int .u8 0,.slice none 0 0,.slice none 0 0,.int .u8 108,.string ⟨#[108,49]⟩,.slice (some ⟨w.heap.size + 1 + 1 + 1 + 1 + 1,0,none⟩) 2 2,.int .i64 0,.int .i64 1,.int .i64 0,.int .i64 0,.slice none 0 0,.slice none 0 0,.string ⟨#[]⟩,.int .u8 0,.slice none 0 0,.slice none 0 0] 41)).alloc (.cells #[.slice (some ⟨w.heap.size + 1,0,none⟩) 3 3,.slice (some ⟨w.heap.size + 1 + 1 + 1 + 1 + 1 + 1,0,none⟩) 3 3,.int .i64 1,.int .i64 0,.int .i64 1] 27))∧RowL 27 ((((((((w.alloc (.cells #[.int .i64 1,.int .i64 0] 25)).alloc (.cells #[.string ⟨#[48]⟩,.string ⟨#[97]⟩,.string ⟨#[98]⟩] 9)).alloc (.cells #[.int .i64 1,.int .i64 0] 3)).alloc (.cells #[.int .i64 1,.int .i64 0] 25)).alloc (.cells #[.int .i64 2,.int .i64 0] 3)).alloc (.cells #[.int .i64 1,.int .i64 0] 3)).alloc (.cells #[.int .u8 118,.string ⟨#[118,49]⟩,.slice (some ⟨w.heap.size + 1 + 1,0,none⟩) 2 2,.int .i64 0,.int .i64 0,.int .i64 0,.int .i64 1,.slice (some ⟨w.heap.size + 1 + 1 + 1,0,none⟩) 1 1,.slice none 0 0,.string ⟨#[]⟩,.int .u8 0,.slice none 0 0,.slice none 0 0,.int .u8 99,.string ⟨#[99,49]⟩,.slice (some ⟨w.heap.size + 1 + 1 + 1 + 1,0,none⟩) 2 2,.int .i64 0,.int .i64 1,.int .i64 0,.int .i64 0,.slice none 0 0,.slice none 0 0,.string ⟨#[]⟩,.int .u8 0,.slice none 0 0,.slice none 0 0,.int .u8 108,.string ⟨#[108,49]⟩,.slice (some ⟨w.heap.size + 1 + 1 + 1 + 1 + 1,0,none⟩) 2 2,.int .i64 0,.int .i64 1,.int .i64 0,.int .i64 0,.slice none 0 0,.slice none 0 0,.string ⟨#[]⟩,.int .u8 0,.slice none 0 0,.slice none 0 0] 41)).alloc (.cells #[.slice (some ⟨w.heap.size + 1,0,none⟩) 3 3,.slice (some ⟨w.heap.size + 1 + 1 + 1 + 1 + 1 + 1,0,none⟩) 3 3,.int .i64 1,.int .i64 0,.int .i64 1] 27)) (w.heap.size + 1 + 1 + 1 + 1 + 1 + 1 + 1) [.slice (some ⟨w.heap.size + 1,0,none⟩) 3 3,.slice (some ⟨w.heap.size + 1 + 1 + 1 + 1 + 1 + 1,0,none⟩) 3 3,.int .i64 1,.int .i64 0,.int .i64 1]∧RS ((((((((w.alloc (.cells #[.int .i64 1,.int .i64 0] 25)).alloc (.cells #[.string ⟨#[48]⟩,.string ⟨#[97]⟩,.string ⟨#[98]⟩] 9)).alloc (.cells #[.int .i64 1,.int .i64 0] 3)).alloc (.cells #[.int .i64 1,.int .i64 0] 25)).alloc (.cells #[.int .i64 2,.int .i64 0] 3)).alloc (.cells #[.int .i64 1,.int .i64 0] 3)).alloc (.cells #[.int .u8 118,.string ⟨#[118,49]⟩,.slice (some ⟨w.heap.size + 1 + 1,0,none⟩) 2 2,.int .i64 0,.int .i64 0,.int .i64 0,.int .i64 1,.slice (some ⟨w.heap.size + 1 + 1 + 1,0,none⟩) 1 1,.slice none 0 0,.string ⟨#[]⟩,.int .u8 0,.slice none 0 0,.slice none 0 0,.int .u8 99,.string ⟨#[99,49]⟩,.slice (some ⟨w.heap.size + 1 + 1 + 1 + 1,0,none⟩) 2 2,.int .i64 0,.int .i64 1,.int .i64 0,.int .i64 0,.slice none 0 0,.slice none 0 0,.string ⟨#[]⟩,.int .u8 0,.slice none 0 0,.slice none 0 0,.int .u8 108,.string ⟨#[108,49]⟩,.slice (some ⟨w.heap.size + 1 + 1 + 1 + 1 + 1,0,none⟩) 2 2,.int .i64 0,.int .i64 1,.int .i64 0,.int .i64 0,.slice none 0 0,.slice none 0 0,.string ⟨#[]⟩,.int .u8 0,.slice none 0 0,.slice none 0 0] 41)).alloc (.cells #[.slice (some ⟨w.heap.size + 1,0,none⟩) 3 3,.slice (some ⟨w.heap.size + 1 + 1 + 1 + 1 + 1 + 1,0,none⟩) 3 3,.int .i64 1,.int .i64 0,.int .i64 1] 27)) (.slice (some ⟨w.heap.size + 1,0,none⟩) 3 3) nsA∧DsR ((((((((w.alloc (.cells #[.int .i64 1,.int .i64 0] 25)).alloc (.cells #[.string ⟨#[48]⟩,.string ⟨#[97]⟩,.string ⟨#[98]⟩] 9)).alloc (.cells #[.int .i64 1,.int .i64 0] 3)).alloc (.cells #[.int .i64 1,.int .i64 0] 25)).alloc (.cells #[.int .i64 2,.int .i64 0] 3)).alloc (.cells #[.int .i64 1,.int .i64 0] 3)).alloc (.cells #[.int .u8 118,.string ⟨#[118,49]⟩,.slice (some ⟨w.heap.size + 1 + 1,0,none⟩) 2 2,.int .i64 0,.int .i64 0,.int .i64 0,.int .i64 1,.slice (some ⟨w.heap.size + 1 + 1 + 1,0,none⟩) 1 1,.slice none 0 0,.string ⟨#[]⟩,.int .u8 0,.slice none 0 0,.slice none 0 0,.int .u8 99,.string ⟨#[99,49]⟩,.slice (some ⟨w.heap.size + 1 + 1 + 1 + 1,0,none⟩) 2 2,.int .i64 0,.int .i64 1,.int .i64 0,.int .i64 0,.slice none 0 0,.slice none 0 0,.string ⟨#[]⟩,.int .u8 0,.slice none 0 0,.slice none 0 0,.int .u8 108,.string ⟨#[108,49]⟩,.slice (some ⟨w.heap.size + 1 + 1 + 1 + 1 + 1,0,none⟩) 2 2,.int .i64 0,.int .i64 1,.int .i64 0,.int .i64 0,.slice none 0 0,.slice none 0 0,.string ⟨#[]⟩,.int .u8 0,.slice none 0 0,.slice none 0 0] 41)).alloc (.cells #[.slice (some ⟨w.heap.size + 1,0,none⟩) 3 3,.slice (some ⟨w.heap.size + 1 + 1 + 1 + 1 + 1 + 1,0,none⟩) 3 3,.int .i64 1,.int .i64 0,.int .i64 1] 27)) (.slice (some ⟨w.heap.size + 1 + 1 + 1 + 1 + 1 + 1,0,none⟩) 3 3) (dsA w.heap.size):=by
 --%W
 obtain ⟨W1,e1⟩:∃ V,V = w.alloc (.cells #[.int .i64 1,.int .i64 0] 25):=⟨_,rfl⟩
 rw [← e1]
 obtain ⟨W2,e2⟩:∃ V,V = W1.alloc (.cells #[.string ⟨#[48]⟩,.string ⟨#[97]⟩,.string ⟨#[98]⟩] 9):=⟨_,rfl⟩
 rw [← e2]
 obtain ⟨W3,e3⟩:∃ V,V = W2.alloc (.cells #[.int .i64 1,.int .i64 0] 3):=⟨_,rfl⟩
 rw [← e3]
 obtain ⟨W4,e4⟩:∃ V,V = W3.alloc (.cells #[.int .i64 1,.int .i64 0] 25):=⟨_,rfl⟩
 rw [← e4]
 obtain ⟨W5,e5⟩:∃ V,V = W4.alloc (.cells #[.int .i64 2,.int .i64 0] 3):=⟨_,rfl⟩
 rw [← e5]
 obtain ⟨W6,e6⟩:∃ V,V = W5.alloc (.cells #[.int .i64 1,.int .i64 0] 3):=⟨_,rfl⟩
 rw [← e6]
 obtain ⟨W7,e7⟩:∃ V,V = W6.alloc (.cells #[.int .u8 118,.string ⟨#[118,49]⟩,.slice (some ⟨w.heap.size + 1 + 1,0,none⟩) 2 2,.int .i64 0,.int .i64 0,.int .i64 0,.int .i64 1,.slice (some ⟨w.heap.size + 1 + 1 + 1,0,none⟩) 1 1,.slice none 0 0,.string ⟨#[]⟩,.int .u8 0,.slice none 0 0,.slice none 0 0,.int .u8 99,.string ⟨#[99,49]⟩,.slice (some ⟨w.heap.size + 1 + 1 + 1 + 1,0,none⟩) 2 2,.int .i64 0,.int .i64 1,.int .i64 0,.int .i64 0,.slice none 0 0,.slice none 0 0,.string ⟨#[]⟩,.int .u8 0,.slice none 0 0,.slice none 0 0,.int .u8 108,.string ⟨#[108,49]⟩,.slice (some ⟨w.heap.size + 1 + 1 + 1 + 1 + 1,0,none⟩) 2 2,.int .i64 0,.int .i64 1,.int .i64 0,.int .i64 0,.slice none 0 0,.slice none 0 0,.string ⟨#[]⟩,.int .u8 0,.slice none 0 0,.slice none 0 0] 41):=⟨_,rfl⟩
 rw [← e7]
 obtain ⟨W8,e8⟩:∃ V,V = W7.alloc (.cells #[.slice (some ⟨w.heap.size + 1,0,none⟩) 3 3,.slice (some ⟨w.heap.size + 1 + 1 + 1 + 1 + 1 + 1,0,none⟩) 3 3,.int .i64 1,.int .i64 0,.int .i64 1] 27):=⟨_,rfl⟩
 rw [← e8]
 have k0:Kept w W1:=by rw [e1]; exact (Kept.refl _).alloc _
 have r0:RowL 25 W1 w.heap.size [.int .i64 1,.int .i64 0]:=by rw [e1]; exact RowL.alloc 25 w [.int .i64 1,.int .i64 0]
 have s1:W1.heap.size = w.heap.size + 1:=by rw [e1]; simp
 have k1:Kept W1 W2:=by rw [e2]; exact (Kept.refl _).alloc _
 have r1:RowL 9 W2 W1.heap.size [.string ⟨#[48]⟩,.string ⟨#[97]⟩,.string ⟨#[98]⟩]:=by rw [e2]; exact RowL.alloc 9 W1 [.string ⟨#[48]⟩,.string ⟨#[97]⟩,.string ⟨#[98]⟩]
 have s2:W2.heap.size = W1.heap.size + 1:=by rw [e2]; simp
 have k2:Kept W2 W3:=by rw [e3]; exact (Kept.refl _).alloc _
 have r2:RowL 3 W3 W2.heap.size [.int .i64 1,.int .i64 0]:=by rw [e3]; exact RowL.alloc 3 W2 [.int .i64 1,.int .i64 0]
 have s3:W3.heap.size = W2.heap.size + 1:=by rw [e3]; simp
 have k3:Kept W3 W4:=by rw [e4]; exact (Kept.refl _).alloc _
 have r3:RowL 25 W4 W3.heap.size [.int .i64 1,.int .i64 0]:=by rw [e4]; exact RowL.alloc 25 W3 [.int .i64 1,.int .i64 0]
 have s4:W4.heap.size = W3.heap.size + 1:=by rw [e4]; simp
 have k4:Kept W4 W5:=by rw [e5]; exact (Kept.refl _).alloc _
 have r4:RowL 3 W5 W4.heap.size [.int .i64 2,.int .i64 0]:=by rw [e5]; exact RowL.alloc 3 W4 [.int .i64 2,.int .i64 0]
 have s5:W5.heap.size = W4.heap.size + 1:=by rw [e5]; simp
 have k5:Kept W5 W6:=by rw [e6]; exact (Kept.refl _).alloc _
 have r5:RowL 3 W6 W5.heap.size [.int .i64 1,.int .i64 0]:=by rw [e6]; exact RowL.alloc 3 W5 [.int .i64 1,.int .i64 0]
 have s6:W6.heap.size = W5.heap.size + 1:=by rw [e6]; simp
 have k6:Kept W6 W7:=by rw [e7]; exact (Kept.refl _).alloc _
 have r6:RowL 41 W7 W6.heap.size [.int .u8 118,.string ⟨#[118,49]⟩,.slice (some ⟨w.heap.size + 1 + 1,0,none⟩) 2 2,.int .i64 0,.int .i64 0,.int .i64 0,.int .i64 1,.slice (some ⟨w.heap.size + 1 + 1 + 1,0,none⟩) 1 1,.slice none 0 0,.string ⟨#[]⟩,.int .u8 0,.slice none 0 0,.slice none 0 0,.int .u8 99,.string ⟨#[99,49]⟩,.slice (some ⟨w.heap.size + 1 + 1 + 1 + 1,0,none⟩) 2 2,.int .i64 0,.int .i64 1,.int .i64 0,.int .i64 0,.slice none 0 0,.slice none 0 0,.string ⟨#[]⟩,.int .u8 0,.slice none 0 0,.slice none 0 0,.int .u8 108,.string ⟨#[108,49]⟩,.slice (some ⟨w.heap.size + 1 + 1 + 1 + 1 + 1,0,none⟩) 2 2,.int .i64 0,.int .i64 1,.int .i64 0,.int .i64 0,.slice none 0 0,.slice none 0 0,.string ⟨#[]⟩,.int .u8 0,.slice none 0 0,.slice none 0 0]:=by rw [e7]; exact RowL.alloc 41 W6 [.int .u8 118,.string ⟨#[118,49]⟩,.slice (some ⟨w.heap.size + 1 + 1,0,none⟩) 2 2,.int .i64 0,.int .i64 0,.int .i64 0,.int .i64 1,.slice (some ⟨w.heap.size + 1 + 1 + 1,0,none⟩) 1 1,.slice none 0 0,.string ⟨#[]⟩,.int .u8 0,.slice none 0 0,.slice none 0 0,.int .u8 99,.string ⟨#[99,49]⟩,.slice (some ⟨w.heap.size + 1 + 1 + 1 + 1,0,none⟩) 2 2,.int .i64 0,.int .i64 1,.int .i64 0,.int .i64 0,.slice none 0 0,.slice none 0 0,.string ⟨#[]⟩,.int .u8 0,.slice none 0 0,.slice none 0 0,.int .u8 108,.string ⟨#[108,49]⟩,.slice (some ⟨w.heap.size + 1 + 1 + 1 + 1 + 1,0,none⟩) 2 2,.int .i64 0,.int .i64 1,.int .i64 0,.int .i64 0,.slice none 0 0,.slice none 0 0,.string ⟨#[]⟩,.int .u8 0,.slice none 0 0,.slice none 0 0]
 have s7:W7.heap.size = W6.heap.size + 1:=by rw [e7]; simp
 have k7:Kept W7 W8:=by rw [e8]; exact (Kept.refl _).alloc _
 have r7:RowL 27 W8 W7.heap.size [.slice (some ⟨w.heap.size + 1,0,none⟩) 3 3,.slice (some ⟨w.heap.size + 1 + 1 + 1 + 1 + 1 + 1,0,none⟩) 3 3,.int .i64 1,.int .i64 0,.int .i64 1]:=by rw [e8]; exact RowL.alloc 27 W7 [.slice (some ⟨w.heap.size + 1,0,none⟩) 3 3,.slice (some ⟨w.heap.size + 1 + 1 + 1 + 1 + 1 + 1,0,none⟩) 3 3,.int .i64 1,.int .i64 0,.int .i64 1]
 have s8:W8.heap.size = W7.heap.size + 1:=by rw [e8]; simp
 clear e1 e2 e3 e4 e5 e6 e7 e8
 rw [s7,s6,s5,s4,s3,s2,s1] at r7
 rw [s6,s5,s4,s3,s2,s1] at r6
 rw [s5,s4,s3,s2,s1] at r5
 rw [s4,s3,s2,s1] at r4
 rw [s3,s2,s1] at r3
 rw [s2,s1] at r2
 rw [s1] at r1
 have l7:=k7
 have l6:=k6.trans l7
 have l5:=k5.trans l6
 have l4:=k4.trans l5
 have l3:=k3.trans l4
 have l2:=k2.trans l3
 have l1:=k1.trans l2
 have l0:=k0.trans l1
 have hfl:[.int .u8 118,.string ⟨#[118,49]⟩,.slice (some ⟨w.heap.size + 1 + 1,0,none⟩) 2 2,.int .i64 0,.int .i64 0,.int .i64 0,.int .i64 1,.slice (some ⟨w.heap.size + 1 + 1 + 1,0,none⟩) 1 1,.slice none 0 0,.string ⟨#[]⟩,.int .u8 0,.slice none 0 0,.slice none 0 0,.int .u8 99,.string ⟨#[99,49]⟩,.slice (some ⟨w.heap.size + 1 + 1 + 1 + 1,0,none⟩) 2 2,.int .i64 0,.int .i64 1,.int .i64 0,.int .i64 0,.slice none 0 0,.slice none 0 0,.string ⟨#[]⟩,.int .u8 0,.slice none 0 0,.slice none 0 0,.int .u8 108,.string ⟨#[108,49]⟩,.slice (some ⟨w.heap.size + 1 + 1 + 1 + 1 + 1,0,none⟩) 2 2,.int .i64 0,.int .i64 1,.int .i64 0,.int .i64 0,.slice none 0 0,.slice none 0 0,.string ⟨#[]⟩,.int .u8 0,.slice none 0 0,.slice none 0 0] = ((dsA w.heap.size).map DE.cells).flatten:=rfl
 rw [hfl] at r6
 have q1:=r1.kept l2
 have q2:=r2.kept l3
 have q3:=r3.kept l4
 have q4:=r4.kept l5
 have q5:=r5.kept l6
 have q6:=r6.kept l7
 clear r0 r1 r2 r3 r4 r5 r6 k0 k1 k2 k3 k4 k5 k6 k7 l1 l2 l3 l4 l5 l6 l7 s1 s2 s3 s4 s5 s6 s7 s8 hfl
 refine ⟨l0,r7,rs_row (l:=nsA) q1 3,rows_row (L:=(dsA w.heap.size).map DE.cells) q6 (fun x hx => ?_) 3,fun d hd => ?_⟩
 ·
  obtain ⟨d,_,rfl⟩:=List.mem_map.1 hx
  rfl
 ·
  rcases List.mem_cons.1 hd with rfl | hd
  ·
   exact ⟨isl_row (l:=[1,0]) q2 2,nsl_row (l:=[(1,0)]) q3 1,nil_isl _,nil_nsl _,nil_nsl _⟩
  rcases List.mem_cons.1 hd with rfl | hd
  ·
   exact ⟨isl_row (l:=[2,0]) q4 2,nil_nsl _,nil_isl _,nil_nsl _,nil_nsl _⟩
  rcases List.mem_cons.1 hd with rfl | hd
  ·
   exact ⟨isl_row (l:=[1,0]) q5 2,nil_nsl _,nil_isl _,nil_nsl _,nil_nsl _⟩
  ·
   cases hd
theorem dsA_sz (h:Nat):∀ d ∈ dsA h,d.sz:=by
 intro d hd
 rcases List.mem_cons.1 hd with rfl | hd
 ·
  exact ⟨Nat.le_of_ble_eq_true (by kernel_rfl),Nat.le_of_ble_eq_true (by kernel_rfl),Nat.le_of_ble_eq_true (by kernel_rfl),Nat.le_of_ble_eq_true (by kernel_rfl),Nat.le_of_ble_eq_true (by kernel_rfl)⟩
 rcases List.mem_cons.1 hd with rfl | hd
 ·
  exact ⟨Nat.le_of_ble_eq_true (by kernel_rfl),Nat.le_of_ble_eq_true (by kernel_rfl),Nat.le_of_ble_eq_true (by kernel_rfl),Nat.le_of_ble_eq_true (by kernel_rfl),Nat.le_of_ble_eq_true (by kernel_rfl)⟩
 rcases List.mem_cons.1 hd with rfl | hd
 ·
  exact ⟨Nat.le_of_ble_eq_true (by kernel_rfl),Nat.le_of_ble_eq_true (by kernel_rfl),Nat.le_of_ble_eq_true (by kernel_rfl),Nat.le_of_ble_eq_true (by kernel_rfl),Nat.le_of_ble_eq_true (by kernel_rfl)⟩
 ·
  cases hd
theorem aw_ref1 (h:Nat):refT 1 0 1 nsA (dsA h) 1 = 0:=by
 --%Kref1
 kernel_rfl
theorem aw_ref2 (h:Nat):refT 1 0 1 nsA (dsA h) 2 = 0:=by
 --%Kref2
 kernel_rfl
theorem aw_flo1 (h:Nat):floR 1 0 1 nsA (dsA h) 1 = [2]:=by
 --%Kflo1
 kernel_rfl
theorem aw_flo2 (h:Nat):floR 1 0 1 nsA (dsA h) 2 = []:=by
 --%Kflo2
 kernel_rfl
theorem aw_loo1 (h:Nat):looR 1 0 1 nsA (dsA h) 1 = [2]:=by
 --%Kloo1
 kernel_rfl
theorem aw_chk1 (h:Nat):tchk 1 0 1 nsA (dsA h) 1 = 100:=by
 --%Kchk1
 kernel_rfl
theorem aw_chk2 (h:Nat):tchk 1 0 1 nsA (dsA h) 2 = 0:=by
 --%Kchk2
 kernel_rfl
theorem aw_chk3 (h:Nat):tchk 1 0 1 nsA (dsA h) 3 = 110:=by
 --%Kchk3
 kernel_rfl
set_option maxRecDepth 100000 in
set_option maxHeartbeats 8000000 in
theorem awake10_any (w:World) (hL:Lett w) (hE:ErrV w) (hT:Tab w) :
  Calls Tryz.prog 4 #[] w fun e w' => Kept w w'∧e = .returned (.bool true):=by
 --%V
 have hw:=awake_world w
 have HLE:=hid' (And.intro hL (And.intro hE hT))
 clear hL hE hT
 go_enter Tryz.func4,Tryz.ntmps4
 go_upto_region 3 with fail
 generalize ((((((((w.alloc (.cells #[.int .i64 1,.int .i64 0] 25)).alloc (.cells #[.string ⟨#[48]⟩,.string ⟨#[97]⟩,.string ⟨#[98]⟩] 9)).alloc (.cells #[.int .i64 1,.int .i64 0] 3)).alloc (.cells #[.int .i64 1,.int .i64 0] 25)).alloc (.cells #[.int .i64 2,.int .i64 0] 3)).alloc (.cells #[.int .i64 1,.int .i64 0] 3)).alloc (.cells #[.int .u8 118,.string ⟨#[118,49]⟩,.slice (some ⟨w.heap.size + 1 + 1,0,none⟩) 2 2,.int .i64 0,.int .i64 0,.int .i64 0,.int .i64 1,.slice (some ⟨w.heap.size + 1 + 1 + 1,0,none⟩) 1 1,.slice none 0 0,.string ⟨#[]⟩,.int .u8 0,.slice none 0 0,.slice none 0 0,.int .u8 99,.string ⟨#[99,49]⟩,.slice (some ⟨w.heap.size + 1 + 1 + 1 + 1,0,none⟩) 2 2,.int .i64 0,.int .i64 1,.int .i64 0,.int .i64 0,.slice none 0 0,.slice none 0 0,.string ⟨#[]⟩,.int .u8 0,.slice none 0 0,.slice none 0 0,.int .u8 108,.string ⟨#[108,49]⟩,.slice (some ⟨w.heap.size + 1 + 1 + 1 + 1 + 1,0,none⟩) 2 2,.int .i64 0,.int .i64 1,.int .i64 0,.int .i64 0,.slice none 0 0,.slice none 0 0,.string ⟨#[]⟩,.int .u8 0,.slice none 0 0,.slice none 0 0] 41)).alloc (.cells #[.slice (some ⟨w.heap.size + 1,0,none⟩) 3 3,.slice (some ⟨w.heap.size + 1 + 1 + 1 + 1 + 1 + 1,0,none⟩) 3 3,.int .i64 1,.int .i64 0,.int .i64 1] 27)) = W at hw ⊢
 obtain ⟨kA,hF,hns,hds⟩:=hw
 have HS:=hid' (dsA_sz w.heap.size)
 obtain ⟨n0,hn0⟩:∃ n,n = w.heap.size:=⟨_,rfl⟩
 rw [← hn0] at hF hns hds HS ⊢
 clear hn0
 have HK:=hid' kA
 have HF:=hid' hF
 have HN:=hid' hns
 have HD:=hid' hds
 clear kA hF hns hds
 have f0:=HF.out.cell 0 (.slice (some ⟨n0 + 1,0,none⟩) 3 3)
 have f1:=HF.out.cell 1 (.slice (some ⟨n0 + 1 + 1 + 1 + 1 + 1 + 1,0,none⟩) 3 3)
 have f2:=HF.out.cell 2 (.int .i64 1)
 have f3:=HF.out.cell 3 (.int .i64 0)
 have f4:=HF.out.cell 4 (.int .i64 1)
 go_wp2_with fail
 refine (Floats_any (some ⟨n0 + 1,0,none⟩) 3 3 (some ⟨n0 + 1 + 1 + 1 + 1 + 1 + 1,0,none⟩) 3 3 1 0 1 1 nsA (dsA n0) _ HN.out (by decide) (by decide) (by decide) HD.out HS.out (HLE.out.1.kept HK.out) (HLE.out.2.1.kept HK.out) (HLE.out.2.2.kept HK.out)).mono ?_
 rintro e w1 ⟨hk,aw1,lw1,cw1,rfl,hl,hv⟩
 rw [aw_ref1]
 rw [aw_flo1] at hl hv
 have hl2:lw1 = 1:=hl
 clear hl
 subst hl2
 obtain ⟨gw1,_,e,_,_,_,hc,_⟩:=own_cell hv (by decide)
 simp only [Value.slice.injEq] at e
 obtain ⟨rfl,-,rfl⟩:=e
 have Hw1:=hid' (fun (V:World) (K:Kept w1 V) => (OwnI.isl hv).kept K)
 have bw1:=hid' (show w1.cell? ⟨gw1,0,none⟩ = some (.int .i64 2) from hc 0 _ rfl)
 have ltw1:=hid' (World.block_lt_of_cell? w1 ⟨gw1,0,none⟩ bw1.out)
 clear hv hc Hw1
 have HF:=hid' (HF.out.kept hk)
 have HN:=hid' (HN.out.kept hk)
 have HD:=hid' (HD.out.kept hk)
 have HK:=hid' (HK.out.trans hk)
 clear hk f0 f1 f2 f3 f4
 have f0:=HF.out.cell 0 (.slice (some ⟨n0 + 1,0,none⟩) 3 3)
 have f1:=HF.out.cell 1 (.slice (some ⟨n0 + 1 + 1 + 1 + 1 + 1 + 1,0,none⟩) 3 3)
 have f2:=HF.out.cell 2 (.int .i64 1)
 have f3:=HF.out.cell 3 (.int .i64 0)
 have f4:=HF.out.cell 4 (.int .i64 1)
 go_wp2_with fail
 refine (Loops_any (some ⟨n0 + 1,0,none⟩) 3 3 (some ⟨n0 + 1 + 1 + 1 + 1 + 1 + 1,0,none⟩) 3 3 1 0 1 1 nsA (dsA n0) _ HN.out (by decide) (by decide) (by decide) HD.out HS.out (HLE.out.1.kept HK.out) (HLE.out.2.1.kept HK.out) (HLE.out.2.2.kept HK.out)).mono ?_
 rintro e w2 ⟨hk,aw2,lw2,cw2,rfl,hl,hv⟩
 rw [aw_ref1]
 rw [aw_loo1] at hl hv
 have hl2:lw2 = 1:=hl
 clear hl
 subst hl2
 obtain ⟨gw2,_,e,_,_,_,hc,_⟩:=own_cell hv (by decide)
 simp only [Value.slice.injEq] at e
 obtain ⟨rfl,-,rfl⟩:=e
 have Hw2:=hid' (fun (V:World) (K:Kept w2 V) => (OwnI.isl hv).kept K)
 have bw2:=hid' (show w2.cell? ⟨gw2,0,none⟩ = some (.int .i64 2) from hc 0 _ rfl)
 have ltw2:=hid' (World.block_lt_of_cell? w2 ⟨gw2,0,none⟩ bw2.out)
 clear hv hc Hw2
 have HF:=hid' (HF.out.kept hk)
 have HN:=hid' (HN.out.kept hk)
 have HD:=hid' (HD.out.kept hk)
 have HK:=hid' (HK.out.trans hk)
 have bw1:=hid' ((Below.cell hk (p:=⟨gw1,0,none⟩) ltw1.out).trans bw1.out)
 have ltw1:=hid' (Nat.lt_of_lt_of_le ltw1.out hk.size)
 clear hk f0 f1 f2 f3 f4
 have f0:=HF.out.cell 0 (.slice (some ⟨n0 + 1,0,none⟩) 3 3)
 have f1:=HF.out.cell 1 (.slice (some ⟨n0 + 1 + 1 + 1 + 1 + 1 + 1,0,none⟩) 3 3)
 have f2:=HF.out.cell 2 (.int .i64 1)
 have f3:=HF.out.cell 3 (.int .i64 0)
 have f4:=HF.out.cell 4 (.int .i64 1)
 go_wp2_with fail
 refine (Floats_any (some ⟨n0 + 1,0,none⟩) 3 3 (some ⟨n0 + 1 + 1 + 1 + 1 + 1 + 1,0,none⟩) 3 3 1 0 1 2 nsA (dsA n0) _ HN.out (by decide) (by decide) (by decide) HD.out HS.out (HLE.out.1.kept HK.out) (HLE.out.2.1.kept HK.out) (HLE.out.2.2.kept HK.out)).mono ?_
 rintro e w3 ⟨hk,aw3,lw3,cw3,rfl,hl,hv⟩
 rw [aw_ref2]
 rw [aw_flo2] at hl hv
 have hl2:lw3 = 0:=hl
 clear hl
 subst hl2
 clear hv
 have HF:=hid' (HF.out.kept hk)
 have HN:=hid' (HN.out.kept hk)
 have HD:=hid' (HD.out.kept hk)
 have HK:=hid' (HK.out.trans hk)
 have bw1:=hid' ((Below.cell hk (p:=⟨gw1,0,none⟩) ltw1.out).trans bw1.out)
 have ltw1:=hid' (Nat.lt_of_lt_of_le ltw1.out hk.size)
 have bw2:=hid' ((Below.cell hk (p:=⟨gw2,0,none⟩) ltw2.out).trans bw2.out)
 have ltw2:=hid' (Nat.lt_of_lt_of_le ltw2.out hk.size)
 clear hk f0 f1 f2 f3 f4
 have f0:=HF.out.cell 0 (.slice (some ⟨n0 + 1,0,none⟩) 3 3)
 have f1:=HF.out.cell 1 (.slice (some ⟨n0 + 1 + 1 + 1 + 1 + 1 + 1,0,none⟩) 3 3)
 have f2:=HF.out.cell 2 (.int .i64 1)
 have f3:=HF.out.cell 3 (.int .i64 0)
 have f4:=HF.out.cell 4 (.int .i64 1)
 have d1:=bw1.out
 have d2:=bw2.out
 --%C
 go_wp2_with fail
 refine (TCheck_any (some ⟨n0 + 1,0,none⟩) 3 3 (some ⟨n0 + 1 + 1 + 1 + 1 + 1 + 1,0,none⟩) 3 3 1 0 1 1 nsA (dsA n0) _ HN.out (by decide) (by decide) (by decide) HD.out HS.out (HLE.out.1.kept HK.out) (HLE.out.2.1.kept HK.out) (HLE.out.2.2.kept HK.out)).mono ?_
 rintro e w4 ⟨hk,rfl⟩
 rw [aw_chk1]
 have HF:=hid' (HF.out.kept hk)
 have HN:=hid' (HN.out.kept hk)
 have HD:=hid' (HD.out.kept hk)
 have HK:=hid' (HK.out.trans hk)
 clear hk f0 f1 f2 f3 f4
 have f0:=HF.out.cell 0 (.slice (some ⟨n0 + 1,0,none⟩) 3 3)
 have f1:=HF.out.cell 1 (.slice (some ⟨n0 + 1 + 1 + 1 + 1 + 1 + 1,0,none⟩) 3 3)
 have f2:=HF.out.cell 2 (.int .i64 1)
 have f3:=HF.out.cell 3 (.int .i64 0)
 have f4:=HF.out.cell 4 (.int .i64 1)
 go_wp2_with fail
 refine (TCheck_any (some ⟨n0 + 1,0,none⟩) 3 3 (some ⟨n0 + 1 + 1 + 1 + 1 + 1 + 1,0,none⟩) 3 3 1 0 1 2 nsA (dsA n0) _ HN.out (by decide) (by decide) (by decide) HD.out HS.out (HLE.out.1.kept HK.out) (HLE.out.2.1.kept HK.out) (HLE.out.2.2.kept HK.out)).mono ?_
 rintro e w5 ⟨hk,rfl⟩
 rw [aw_chk2]
 have HF:=hid' (HF.out.kept hk)
 have HN:=hid' (HN.out.kept hk)
 have HD:=hid' (HD.out.kept hk)
 have HK:=hid' (HK.out.trans hk)
 clear hk f0 f1 f2 f3 f4
 have f0:=HF.out.cell 0 (.slice (some ⟨n0 + 1,0,none⟩) 3 3)
 have f1:=HF.out.cell 1 (.slice (some ⟨n0 + 1 + 1 + 1 + 1 + 1 + 1,0,none⟩) 3 3)
 have f2:=HF.out.cell 2 (.int .i64 1)
 have f3:=HF.out.cell 3 (.int .i64 0)
 have f4:=HF.out.cell 4 (.int .i64 1)
 go_wp2_with fail
 refine (TCheck_any (some ⟨n0 + 1,0,none⟩) 3 3 (some ⟨n0 + 1 + 1 + 1 + 1 + 1 + 1,0,none⟩) 3 3 1 0 1 3 nsA (dsA n0) _ HN.out (by decide) (by decide) (by decide) HD.out HS.out (HLE.out.1.kept HK.out) (HLE.out.2.1.kept HK.out) (HLE.out.2.2.kept HK.out)).mono ?_
 rintro e w6 ⟨hk,rfl⟩
 rw [aw_chk3]
 have HF:=hid' (HF.out.kept hk)
 have HN:=hid' (HN.out.kept hk)
 have HD:=hid' (HD.out.kept hk)
 have HK:=hid' (HK.out.trans hk)
 clear hk f0 f1 f2 f3 f4
 go_wp2_with fail
 go_ret
 exact ⟨HK.out,rfl⟩
end V
end Go.Proofs.YtcggopolokekkaaGreatDoor

namespace Go.Proofs.YtcggopolokekkaaGreatDoor
open Go.RowKit
namespace V
open Q (hid' Lett ErrV Tab)
open X (RS OwnS strs)
set_option maxRecDepth 100000 in
set_option maxHeartbeats 8000000 in
theorem modes10_any (fa:Option Addr) (fn fc:Nat) (da:Option Addr) (dn dc:Nat) (fm fx fk:Int) (ns:List (List UInt8)) (ds:List DE) (w:World) (hns:RS w (.slice fa fn fc) ns) (hcap:fn≤fc) (hbig:fc≤9223372036854775807) (hs:∀ x ∈ ns,x.length≤4611686018427387903) (h:DsR w (.slice da dn dc) ds) (hz:∀ d ∈ ds,d.sz) (hdb:dn≤9223372036854775807) (hL:Lett w) (hE:ErrV w) (hT:Tab w) :
  Calls Tryz.prog 3 #[.agg #[.slice fa fn fc,.slice da dn dc,.int .i64 fm,.int .i64 fx,.int .i64 fk]] w fun e w' => Kept w w'∧e = .returned (.bool true):=by
 have kA:=(Kept.refl w).alloc (.cells #[.slice fa fn fc,.slice da dn dc,.int .i64 fm,.int .i64 fx,.int .i64 fk] 27)
 have hA:=RowL.alloc 27 w [.slice fa fn fc,.slice da dn dc,.int .i64 fm,.int .i64 fx,.int .i64 fk]
 have HA:=hid' (And.intro hns (And.intro hcap (And.intro hbig (And.intro hs (And.intro h hz)))))
 have HLE:=hid' (And.intro hL (And.intro hE hT))
 have HM:=hid' (And.intro (refT_modes fm fx fk ns ds) (And.intro (flo_modes fm fx fk ns ds) (loo_modes fm fx fk ns ds)))
 clear hns hcap hbig hs h hz hL hE hT
 go_enter Tryz.func3,Tryz.ntmps3
 go_upto_region 1 with fail
 generalize w.alloc (.cells #[.slice fa fn fc,.slice da dn dc,.int .i64 fm,.int .i64 fx,.int .i64 fk] 27) = W at kA hA ⊢
 obtain ⟨p,hp⟩:∃ q,q = w.heap.size:=⟨_,rfl⟩
 rw [← hp] at hA ⊢
 have HK:=hid' kA
 have HF:=hid' hA
 clear kA hA hp
 go_wp2_with fail
 refine (awake10_any _ (HLE.out.1.kept HK.out) (HLE.out.2.1.kept HK.out) (HLE.out.2.2.kept HK.out)).mono ?_
 rintro e w1 ⟨hk,rfl⟩
 have HF:=hid' (HF.out.kept hk)
 have HK:=hid' (HK.out.trans hk)
 clear hk
 have f0:=HF.out.cell 0 (.slice fa fn fc)
 have f1:=HF.out.cell 1 (.slice da dn dc)
 have f2:=HF.out.cell 2 (.int .i64 fm)
 have f3:=HF.out.cell 3 (.int .i64 fx)
 have f4:=HF.out.cell 4 (.int .i64 fk)
 go_wp2_with fail
 refine (bulky_any fa fn fc da dn dc fm fx fk ds _ (HA.out.2.2.2.2.1.kept HK.out) hdb).mono ?_
 rintro e w2 ⟨hk,r,rfl⟩
 have HF:=hid' (HF.out.kept hk)
 have HK:=hid' (HK.out.trans hk)
 clear hk f0 f1 f2 f3 f4
 cases r with
 | true =>
  go_wp2_with fail
  go_ret
  exact ⟨HK.out,rfl⟩
 | false =>
  have f0:=HF.out.cell 0 (.slice fa fn fc)
  have f1:=HF.out.cell 1 (.slice da dn dc)
  have f2:=HF.out.cell 2 (.int .i64 fm)
  have f3:=HF.out.cell 3 (.int .i64 fx)
  have f4:=HF.out.cell 4 (.int .i64 fk)
  go_wp2_with fail
  refine (Floats_any fa fn fc da dn dc fm fx fk 2 ns ds _ (HA.out.1.kept HK.out) HA.out.2.1 HA.out.2.2.1 HA.out.2.2.2.1 (HA.out.2.2.2.2.1.kept HK.out) HA.out.2.2.2.2.2 (HLE.out.1.kept HK.out) (HLE.out.2.1.kept HK.out) (HLE.out.2.2.kept HK.out)).mono ?_
  rintro e w_a ⟨hk,pa,na,ca,rfl,hla,hv⟩
  have HF:=hid' (HF.out.kept hk)
  have HK:=hid' (HK.out.trans hk)
  have HIa:=hid' hv.isl
  have HNa:=hid' hla
  have hBa:na < 9223372036854775807:=by have:=floR_len fm fx fk ns ds 2; omega
  clear hk hv hla f0 f1 f2 f3 f4
  have f0:=HF.out.cell 0 (.slice fa fn fc)
  have f1:=HF.out.cell 1 (.slice da dn dc)
  have f2:=HF.out.cell 2 (.int .i64 fm)
  have f3:=HF.out.cell 3 (.int .i64 fx)
  have f4:=HF.out.cell 4 (.int .i64 fk)
  go_wp2_with fail
  refine (Floats_any fa fn fc da dn dc fm fx fk 1 ns ds _ (HA.out.1.kept HK.out) HA.out.2.1 HA.out.2.2.1 HA.out.2.2.2.1 (HA.out.2.2.2.2.1.kept HK.out) HA.out.2.2.2.2.2 (HLE.out.1.kept HK.out) (HLE.out.2.1.kept HK.out) (HLE.out.2.2.kept HK.out)).mono ?_
  rintro e w_b ⟨hk,pb,nb,cb,rfl,hlb,hv⟩
  have HF:=hid' (HF.out.kept hk)
  have HK:=hid' (HK.out.trans hk)
  have HIa:=hid' (HIa.out.kept hk)
  have HIb:=hid' hv.isl
  have HNb:=hid' hlb
  have hBb:nb < 9223372036854775807:=by have:=floR_len fm fx fk ns ds 1; omega
  clear hk hv hlb f0 f1 f2 f3 f4
  have f0:=HF.out.cell 0 (.slice fa fn fc)
  have f1:=HF.out.cell 1 (.slice da dn dc)
  have f2:=HF.out.cell 2 (.int .i64 fm)
  have f3:=HF.out.cell 3 (.int .i64 fx)
  have f4:=HF.out.cell 4 (.int .i64 fk)
  go_wp2_with fail
  refine (Loops_any fa fn fc da dn dc fm fx fk 2 ns ds _ (HA.out.1.kept HK.out) HA.out.2.1 HA.out.2.2.1 HA.out.2.2.2.1 (HA.out.2.2.2.2.1.kept HK.out) HA.out.2.2.2.2.2 (HLE.out.1.kept HK.out) (HLE.out.2.1.kept HK.out) (HLE.out.2.2.kept HK.out)).mono ?_
  rintro e w_c ⟨hk,pc,nc,cc,rfl,hlc,hv⟩
  have HF:=hid' (HF.out.kept hk)
  have HK:=hid' (HK.out.trans hk)
  have HIa:=hid' (HIa.out.kept hk)
  have HIb:=hid' (HIb.out.kept hk)
  have HIc:=hid' hv.isl
  have HNc:=hid' hlc
  have hBc:nc < 9223372036854775807:=by have:=looR_len fm fx fk ns ds 2; omega
  clear hk hv hlc f0 f1 f2 f3 f4
  have f0:=HF.out.cell 0 (.slice fa fn fc)
  have f1:=HF.out.cell 1 (.slice da dn dc)
  have f2:=HF.out.cell 2 (.int .i64 fm)
  have f3:=HF.out.cell 3 (.int .i64 fx)
  have f4:=HF.out.cell 4 (.int .i64 fk)
  go_wp2_with fail
  refine (Loops_any fa fn fc da dn dc fm fx fk 1 ns ds _ (HA.out.1.kept HK.out) HA.out.2.1 HA.out.2.2.1 HA.out.2.2.2.1 (HA.out.2.2.2.2.1.kept HK.out) HA.out.2.2.2.2.2 (HLE.out.1.kept HK.out) (HLE.out.2.1.kept HK.out) (HLE.out.2.2.kept HK.out)).mono ?_
  rintro e w_d ⟨hk,pd,nd,cd,rfl,hld,hv⟩
  have HF:=hid' (HF.out.kept hk)
  have HK:=hid' (HK.out.trans hk)
  have HIa:=hid' (HIa.out.kept hk)
  have HIb:=hid' (HIb.out.kept hk)
  have HIc:=hid' (HIc.out.kept hk)
  have HId:=hid' hv.isl
  have HNd:=hid' hld
  have hBd:nd < 9223372036854775807:=by have:=looR_len fm fx fk ns ds 1; omega
  clear hk hv hld f0 f1 f2 f3 f4
  have hcd:(nc:Int)≤(nd:Int):=by have h1:=HM.out.2.2; have h2:=HNc.out; have h3:=HNd.out; omega
  rw [HM.out.1]
  generalize refT fm fx fk ns ds 1 = z
  --%W
  go_wp2_with fail
  refine (within_any pa na ca pb nb cb _ _ _ HIa.out HIb.out HM.out.2.1 hBa hBb).mono ?_
  rintro e w9 ⟨rfl,rfl⟩
  go_wp2_with fail
  go_ret
  exact ⟨HK.out,rfl⟩
end V
end Go.Proofs.YtcggopolokekkaaGreatDoor

namespace Go.Proofs.YtcggopolokekkaaGreatDoor
open Go.ChangeShapes Go.WideShapes Go.ChangeAt Go.RowKit Go.Joins Go.Deep
namespace V
open X (bs RS)
theorem cells_dev:Tryz.prog.cellsOf 41 = 13:=by kernel_rfl
theorem cells_flat:Tryz.prog.cellsOf 27 = 5:=by kernel_rfl
theorem cells_devs:Tryz.prog.cellsOf 23 = 1:=by kernel_rfl
theorem cells_model':Tryz.prog.cellsOf 39 = 4:=by kernel_rfl
theorem weights_mem_all {H:Type} {P:Program} {e:TypeId} {d:DataW H} {l:List (DataW H)} (h:d ∈ l):∀ x ∈ d.weights P e,x ∈ DataW.weightsAll P e l:=by
 induction l with
 | nil => cases h
 | cons y r ih =>
  intro x hx
  rw [DataW.weightsAll]
  rcases List.mem_cons.1 h with rfl | h2
  ·
   exact List.mem_append_left _ hx
  ·
   exact List.mem_append_right _ (ih h2 x hx)
theorem array5 {α:Type} {cs:Array α} (h:cs.size = 5):∃ c0 c1 c2 c3 c4,cs = #[c0,c1,c2,c3,c4]:=by
 obtain ⟨l⟩:=cs
 match l,h with
 | [c0,c1,c2,c3,c4],_ => exact ⟨c0,c1,c2,c3,c4,rfl⟩
theorem trod_struct7 {H:Type} {enc:TypeId × Value→H} {P:Program} {w:World} {base:Nat} {spare:Nat→Bool} {held:Bool} {t:TypeId} {f0 f1 f2 f3 f4 f5 f6:Field} {fuel:Nat} {cs:List Value} {x:DataW H × List MemPlace} (ht:P.underlying t = some (.struct #[f0,f1,f2,f3,f4,f5,f6])) (h:DataW.trod enc P w base spare held fuel t cs = some x) :
  ∃ y0 y1 y2 y3 y4 y5 y6 n,x.1 = .agg [y0.1,y1.1,y2.1,y3.1,y4.1,y5.1,y6.1]∧DataW.trod enc P w base spare held n f0.type ((cs.drop f0.offset).take (P.cellsOf f0.type)) = some y0 ∧
   DataW.trod enc P w base spare held n f1.type ((cs.drop f1.offset).take (P.cellsOf f1.type)) = some y1∧DataW.trod enc P w base spare held n f2.type ((cs.drop f2.offset).take (P.cellsOf f2.type)) = some y2 ∧
   DataW.trod enc P w base spare held n f3.type ((cs.drop f3.offset).take (P.cellsOf f3.type)) = some y3∧DataW.trod enc P w base spare held n f4.type ((cs.drop f4.offset).take (P.cellsOf f4.type)) = some y4 ∧
   DataW.trod enc P w base spare held n f5.type ((cs.drop f5.offset).take (P.cellsOf f5.type)) = some y5∧DataW.trod enc P w base spare held n f6.type ((cs.drop f6.offset).take (P.cellsOf f6.type)) = some y6:=by
 obtain ⟨xs,n,_,rfl,hl,hlen,hf⟩:=DataW.trod_struct ht h
 match xs,hlen with
 | [y0,y1,y2,y3,y4,y5,y6],_ => exact ⟨y0,y1,y2,y3,y4,y5,y6,n,by simp,by simpa using hf 0 f0 rfl,by simpa using hf 1 f1 rfl,by simpa using hf 2 f2 rfl,by simpa using hf 3 f3 rfl,by simpa using hf 4 f4 rfl,by simpa using hf 5 f5 rfl,by simpa using hf 6 f6 rfl⟩
theorem isl_len {W:World} {ao:Option Addr} {n c:Nat} {l:List Int} (h:ISl W (.slice ao n c) l):n = l.length:=by
 obtain ⟨_,_,e,_⟩:=h
 simp at e
 exact e.2.1
theorem nsl_len {W:World} {ao:Option Addr} {n c:Nat} {l:List (Int × Int)} (h:NSl W (.slice ao n c) l):n = l.length:=by
 obtain ⟨_,_,e,_⟩:=h
 simp at e
 exact e.2.1
theorem rs_len' {W:World} {ao:Option Addr} {n c:Nat} {l:List (List UInt8)} (h:RS W (.slice ao n c) l):n = l.length:=by
 obtain ⟨_,_,e,_⟩:=h
 simp at e
 exact e.2.1
set_option maxRecDepth 100000 in
theorem open_dev {H:Type} {enc:TypeId × Value→H} {W:World} {fuel:Nat} {c0 c1 c2 c3 c4 c5 c6 c7 c8 c9 c10 c11 c12:Value} {y:DataW H × List MemPlace} (h:DataW.trod enc Tryz.prog W 0 (fun _ => true) true fuel 41 [c0,c1,c2,c3,c4,c5,c6,c7,c8,c9,c10,c11,c12] = some y) (hz:∀ x ∈ y.1.weights Tryz.prog 41,x≤reachBytes) :
  ∃ d:DE,[c0,c1,c2,c3,c4,c5,c6,c7,c8,c9,c10,c11,c12] = d.cells∧d.ok W∧d.sz:=by
 obtain ⟨y0,y1,y2,y3,y4,y5,y6,q,hy,h0,h1,h2,h3,h4,h5,h6⟩:=trod_struct7 (cs:=[c0,c1,c2,c3,c4,c5,c6,c7,c8,c9,c10,c11,c12]) Tryz.underlying41 h
 simp only [cells_u8,List.drop_zero,List.take_succ_cons,List.take_zero] at h0
 simp only [cells_str,List.drop_succ_cons,List.drop_zero,List.take_succ_cons,List.take_zero] at h1
 simp only [cells_ints,List.drop_succ_cons,List.drop_zero,List.take_succ_cons,List.take_zero] at h2
 simp only [cells_i,List.drop_succ_cons,List.drop_zero,List.take_succ_cons,List.take_zero] at h3
 simp only [cells_num,List.drop_succ_cons,List.drop_zero,List.take_succ_cons,List.take_zero] at h4
 simp only [cells_wave,List.drop_succ_cons,List.drop_zero,List.take_succ_cons,List.take_zero] at h5
 simp only [cells_model',List.drop_succ_cons,List.drop_zero,List.take_succ_cons,List.take_zero] at h6
 obtain ⟨k,e0,_,_⟩:=DataW.trod_int Tryz.underlying5 h0
 obtain ⟨s,e1,d1,_⟩:=DataW.trod_string Tryz.underlying9 h1
 obtain ⟨rf,e3,_,_⟩:=DataW.trod_int Tryz.underlying3 h3
 simp at e0 e1 e3
 subst e0 e1 e3
 obtain ⟨m,x,rfl,rfl,_,_⟩:=open_pair h4
 obtain ⟨an,nn,cn,nds,rfl,rn,wn⟩:=open_isl h2
 obtain ⟨z0,z1,z2,q',hy5,_,g0,g1,g2⟩:=trod_struct3 (cs:=[c6,c7,c8]) Tryz.underlying37 h5
 simp only [cells_i,List.drop_zero,List.take_succ_cons,List.take_zero] at g0
 simp only [cells_nums,List.drop_succ_cons,List.drop_zero,List.take_succ_cons,List.take_zero] at g1
 simp only [cells_ints,List.drop_succ_cons,List.drop_zero,List.take_succ_cons,List.take_zero] at g2
 obtain ⟨wk,e6,_,_⟩:=DataW.trod_int Tryz.underlying3 g0
 simp at e6
 subst e6
 obtain ⟨av,nv,cv,wvl,rfl,rv,_⟩:=open_nsl g1
 obtain ⟨ai,ni,ci,wsl,rfl,ri,_⟩:=open_isl g2
 obtain ⟨u0,u1,u2,u3,q2,hy6,_,t0,t1,t2,t3⟩:=trod_struct4 (cs:=[c9,c10,c11,c12]) Tryz.underlying39 h6
 simp only [cells_str,List.drop_zero,List.take_succ_cons,List.take_zero] at t0
 simp only [cells_u8,List.drop_succ_cons,List.drop_zero,List.take_succ_cons,List.take_zero] at t1
 simp only [cells_nums,List.drop_succ_cons,List.drop_zero,List.take_succ_cons,List.take_zero] at t2
 simp only [cells_nums,List.drop_succ_cons,List.drop_zero,List.take_succ_cons,List.take_zero] at t3
 obtain ⟨ms,e9,_,wms⟩:=DataW.trod_string Tryz.underlying9 t0
 obtain ⟨mk,e10,_,_⟩:=DataW.trod_int Tryz.underlying5 t1
 simp at e9 e10
 subst e9 e10
 obtain ⟨a1,n1,c1,gs,rfl,r1,w1⟩:=open_nsl t2
 obtain ⟨a2,n2,c2,vs,rfl,r2,w2⟩:=open_nsl t3
 obtain rfl:=isl_len rn
 obtain rfl:=nsl_len rv
 obtain rfl:=isl_len ri
 obtain rfl:=nsl_len r1
 obtain rfl:=nsl_len r2
 have hy6':y6.1 = .agg [u0.1,u1.1,u2.1,u3.1]:=by rw [hy6]
 rw [hy] at hz
 simp only [DataW.weights,Tryz.underlying41,DataW.weightsEach,List.map_cons,List.map_nil,List.mem_append] at hz
 have hz1:=fun x hx => hz x (Or.inr (Or.inl hx))
 have hz2:=fun x hx => hz x (Or.inr (Or.inr (Or.inl hx)))
 have hz6:=fun x hx => hz x (Or.inr (Or.inr (Or.inr (Or.inr (Or.inr (Or.inr (Or.inl hx)))))))
 rw [hy6'] at hz6
 simp only [DataW.weights,Tryz.underlying39,DataW.weightsEach,List.map_cons,List.map_nil,List.mem_append] at hz6
 have hw1:=w1 (fun x hx => hz6 x (Or.inr (Or.inr (Or.inl hx))))
 have hw2:=w2 (fun x hx => hz6 x (Or.inr (Or.inr (Or.inr (Or.inl hx)))))
 have hwn:=wn hz2
 have hnm:s.size≤reachBytes:=hz1 _ (by
  rw [d1]
  simp [DataW.weights])
 refine ⟨⟨k,s.data.toList,nds,an,cn,rf,m,x,wk,wvl,av,cv,wsl,ai,ci,⟨ms.data.toList,mk,gs,vs⟩,a1,c1,a2,c2⟩,rfl,⟨rn,rv,ri,r1,r2⟩,⟨?_,?_,?_,?_,?_⟩⟩
 ·
  show nds.length≤_
  omega
 ·
  show s.data.toList.length≤_
  rw [X.len_list]
  unfold reachBytes at hnm
  omega
 ·
  show ms.data.toList.length≤_
  rw [X.len_list]
  unfold maxLen at wms
  omega
 ·
  show gs.length≤_
  omega
 ·
  show vs.length≤_
  omega
set_option maxRecDepth 100000 in
theorem open_devs {H:Type} {enc:TypeId × Value→H} {W:World} {fuel:Nat} {c0:Value} {y:DataW H × List MemPlace} (h:DataW.trod enc Tryz.prog W 0 (fun _ => true) true fuel 23 [c0] = some y) (hz:∀ x ∈ y.1.weights Tryz.prog 23,x≤reachBytes) :
  ∃ ao n c ds,c0 = .slice ao n c∧DsR W (.slice ao n c) ds∧(∀ d ∈ ds,d.sz)∧n≤9223372036854775807:=by
 rcases open_slice Tryz.underlying23 h with ⟨hcs,hy⟩ | ⟨a,len,cap,mm,nn,D,Pl,hcs,_,hl,hm,hmm,rfl,hx⟩
 ·
  simp at hcs
  subst hcs
  exact ⟨none,0,0,[],rfl,⟨⟨none,0,rfl,fun h => absurd h (by decide)⟩,fun d hd => by cases hd⟩,fun d hd => (by cases hd),by omega⟩
 ·
  simp at hcs
  subst hcs
  rw [if_pos rfl] at hmm
  simp only [DataW.weights,Tryz.underlying23,List.mem_cons,List.mem_append] at hz
  by_cases hN:0 < len
  ·
   have hspot:a.spot = none:=by
    obtain ⟨cs',h1,_⟩:=hx 0 (by omega)
    rw [cells_dev] at h1
    obtain ⟨_,hlen4,hc⟩:=World.cells?_some h1
    have h0:=hc 0 (by omega)
    simp [Addr.add] at h0
    exact World.cell?_spot (h0.trans (List.getElem?_eq_getElem (by omega)))
   obtain ⟨b,off,spot⟩:=a
   simp at hspot
   subst hspot
   haveI:Inhabited DE:=⟨⟨0,[],[],none,0,0,0,0,0,[],none,0,[],none,0,⟨[],0,[],[]⟩,none,0,none,0⟩⟩
   obtain ⟨F,hF⟩:=choose_lt (n:=len) (p:=fun i (d:DE) => (∀ j,j < 13→W.cell? ⟨b,off + i * 13 + j,none⟩ = some (d.cells.getD j undef))∧d.ok W∧d.sz) (fun i hi => by
    obtain ⟨cs',h1,h2⟩:=hx i (by omega)
    rw [cells_dev] at h1
    obtain ⟨_,hlen4,hc⟩:=World.cells?_some h1
    have hzi:∀ x ∈ (D i).weights Tryz.prog 41,x≤reachBytes:=fun x hx => hz x (Or.inr (Or.inl (weights_mem_all (List.mem_map.2 ⟨i,List.mem_range.2 hi,rfl⟩) x hx)))
    match cs',hlen4 with
    | [x0,x1,x2,x3,x4,x5,x6,x7,x8,x9,x10,x11,x12],_ =>
     obtain ⟨d,hd,hok,hsz⟩:=open_dev h2 hzi
     refine ⟨d,fun j hj => ?_,hok,hsz⟩
     have add4:∀ q j,((⟨b,off,none⟩:Addr).add q).add j = ⟨b,off + q + j,none⟩:=fun q j => by
      unfold Addr.add
      by_cases hi0:q = 0 <;> by_cases hj0:j = 0 <;> simp [hi0,hj0]
     have cj:=hc j (by omega)
     rw [add4,hd] at cj
     rw [cj,List.getD_eq_getElem?_getD]
     have:j < d.cells.length:=hj
     rw [List.getElem?_eq_getElem this]
     rfl)
   have hblt:b < W.heap.size:=World.block_lt_of_cell? W _ (by have:=(hF 0 hN).1 0 (by omega); exact this)
   refine ⟨some ⟨b,off,none⟩,len,cap,(List.range len).map F,rfl,⟨⟨some ⟨b,off,none⟩,cap,by simp,fun _ => ⟨b,off,rfl,hblt,fun j hj i hi => ?_⟩⟩,?_⟩,?_,by unfold maxLen at hm; omega⟩
   ·
    have hj':j < len:=by simpa using hj
    rw [(hF j hj').1 i hi]
    rw [List.getD_eq_getElem?_getD (l:=List.map DE.cells _),List.getElem?_map,List.getElem?_map,List.getElem?_range hj']
    rfl
   ·
    intro d hd
    obtain ⟨i,hi,rfl⟩:=List.mem_map.1 hd
    exact (hF i (List.mem_range.1 hi)).2.1
   ·
    intro d hd
    obtain ⟨i,hi,rfl⟩:=List.mem_map.1 hd
    exact (hF i (List.mem_range.1 hi)).2.2
  ·
   obtain rfl:len = 0:=by omega
   exact ⟨some a,0,cap,[],rfl,⟨⟨some a,cap,rfl,fun h => absurd h (by decide)⟩,fun d hd => by cases hd⟩,fun d hd => (by cases hd),by omega⟩
set_option maxRecDepth 100000 in
theorem open_names {H:Type} {enc:TypeId × Value→H} {W:World} {fuel:Nat} {c0:Value} {y:DataW H × List MemPlace} (h:DataW.trod enc Tryz.prog W 0 (fun _ => true) true fuel 22 [c0] = some y) (hz:∀ x ∈ y.1.weights Tryz.prog 22,x≤reachBytes) :
  ∃ ao n c l,c0 = .slice ao n c∧RS W (.slice ao n c) l∧n≤c∧c≤9223372036854775807∧∀ x ∈ l,x.length≤4611686018427387903:=by
 obtain ⟨ao,n,c,l,rfl,h1,h2,h3,_,_⟩:=open_rs h
 refine ⟨ao,n,c,l,rfl,h1,h2,h3,?_⟩
 rcases open_strings Tryz.underlying22 Tryz.underlying9 cells_strs1 h with ⟨hcs,_⟩ | ⟨a,len,cap,ss,hcs,_,hl,hm,hz',hx,hcell,_⟩
 ·
  simp only [List.cons.injEq,Value.slice.injEq,and_true] at hcs
  obtain ⟨rfl,rfl,rfl⟩:=hcs
  have:=rs_len' h1
  obtain rfl:l = []:=List.eq_nil_of_length_eq_zero this.symm
  intro x hx
  cases hx
 ·
  simp only [List.cons.injEq,Value.slice.injEq,and_true] at hcs
  obtain ⟨rfl,rfl,rfl⟩:=hcs
  rw [if_pos rfl] at hz'
  obtain ⟨d,p⟩:=y
  simp only [Prod.mk.injEq] at hx
  obtain ⟨rfl,_⟩:=hx
  simp only [DataW.weights,Tryz.underlying22,List.mem_cons,List.mem_append] at hz
  intro x hx
  obtain ⟨j,hj,rfl⟩:=List.getElem_of_mem hx
  have hjn:j < n:=by have:=rs_len' h1; omega
  obtain ⟨ao2,cap2,e2,hc2⟩:=h1
  simp only [Value.slice.injEq] at e2
  obtain ⟨rfl,-,rfl⟩:=e2
  obtain ⟨b,off,e3,_,hcc⟩:=hc2 (by omega)
  simp only [Option.some.injEq] at e3
  subst e3
  have c1:=hcc j hj
  have c2:=hcell j (by omega)
  have ha:(⟨b,off,none⟩:Addr).add j = ⟨b,off + j,none⟩:=by
   unfold Addr.add
   by_cases hj0:j = 0 <;> simp [hj0]
  rw [ha,c1] at c2
  have e4:ss.getD j ByteArray.empty = ss[j]'(by omega):=by rw [List.getD_eq_getElem?_getD,List.getElem?_eq_getElem (by omega)]; rfl
  have e5:l.getD j [] = l[j]:=by rw [List.getD_eq_getElem?_getD,List.getElem?_eq_getElem hj]; rfl
  rw [e4,e5] at c2
  simp only [Option.some.injEq,Value.string.injEq] at c2
  have hmem:ss[j]'(by omega) ∈ ss.take n:=by
   rw [List.mem_take_iff_getElem]
   exact ⟨j,by omega,rfl⟩
  have:=hz (l[j].length) (Or.inr (Or.inl (weights_mem_all (d:=DataW.lit (.string (ss[j]'(by omega)).data.toList)) (List.mem_map.2 ⟨_,hmem,rfl⟩) _ (by
   rw [← c2]
   simp [DataW.weights,X.bs_list]))))
  unfold reachBytes at this
  omega
set_option maxRecDepth 100000 in
theorem open_Flat {H:Type} {enc:TypeId × Value→H} {W:World} {r:Reach} {b0:Nat} {v:Value} {d:DataW H} {p:List MemPlace} (hv:Value.okWide Tryz.prog W r b0 27 v)
  (h:DataW.Trod enc Tryz.prog W 0 (fun _ => true) true 27 v d p) (hz:∀ x ∈ d.weights Tryz.prog 27,x≤reachBytes) :
  ∃ (fa:Option Addr) (fn fc:Nat) (da:Option Addr) (dn dc:Nat) (fm fx fk:Int) (ns:List (List UInt8)) (ds:List DE),v = .agg #[.slice fa fn fc,.slice da dn dc,.int .i64 fm,.int .i64 fx,.int .i64 fk]∧RS W (.slice fa fn fc) ns∧fn≤fc∧fc≤9223372036854775807∧(∀ x ∈ ns,x.length≤4611686018427387903)∧DsR W (.slice da dn dc) ds∧(∀ d ∈ ds,d.sz)∧dn≤9223372036854775807:=by
 obtain ⟨cs,rfl,hsz⟩:=okWide_struct Tryz.underlying27 hv
 obtain ⟨c0,c1,c2,c3,c4,rfl⟩:=array5 (hsz.trans cells_flat)
 obtain ⟨fuel,hf⟩:=h
 obtain ⟨y0,y1,y2,y3,q,hy,_,h0,h1,h2,h3⟩:=trod_struct4 (cs:=[c0,c1,c2,c3,c4]) Tryz.underlying27 hf
 simp only [cells_strs,List.drop_zero,List.take_succ_cons,List.take_zero] at h0
 simp only [cells_devs,List.drop_succ_cons,List.drop_zero,List.take_succ_cons,List.take_zero] at h1
 simp only [cells_num,List.drop_succ_cons,List.drop_zero,List.take_succ_cons,List.take_zero] at h2
 simp only [cells_i,List.drop_succ_cons,List.drop_zero,List.take_succ_cons,List.take_zero] at h3
 obtain ⟨fm,fx,rfl,rfl,_,_⟩:=open_pair h2
 obtain ⟨fk,e4,_,_⟩:=DataW.trod_int Tryz.underlying3 h3
 simp at e4
 subst e4
 have hy':d = .agg [y0.1,y1.1,y2.1,y3.1]:=congrArg Prod.fst hy
 rw [hy'] at hz
 simp only [DataW.weights,Tryz.underlying27,DataW.weightsEach,List.map_cons,List.map_nil,List.mem_append] at hz
 obtain ⟨fa,fn,fc,ns,rfl,r1,r2,r3,r4⟩:=open_names h0 (fun x hx => hz x (Or.inl hx))
 obtain ⟨da,dn,dc,ds,rfl,s1,s2,s3⟩:=open_devs h1 (fun x hx => hz x (Or.inr (Or.inl hx)))
 exact ⟨fa,fn,fc,da,dn,dc,fm,fx,fk,ns,ds,rfl,r1,r2,r3,r4,s1,s2,s3⟩
end V
end Go.Proofs.YtcggopolokekkaaGreatDoor

/- Det. A right row's sum; what Solve tells solves each row. Solutions by rows alone; sums of right sides; the unit matrix (pure). A stage's row summed up in whatever order its map is gone through. Back: what holds of a stage's numbers (pure). Rows swapped, one of them multiplied: the determinant, the solutions (pure). The unit matrix of n rows: its stages, and what is solved by them (pure). bareiss.rightRow, right, New. (mk_mzk.py) The sign of an order; Det's number is the determinant. What New tells hangs on the numbers within the matrix alone; two small matrices. A matrix turned over its diagonal, row by row (pure). -/
import Derived.Test.YtdcfammglpebaaaGreatGav
import Derived.Test.YtdcfammglpebaaaGreatMzg
import Derived.Test.YtdcfammglpebaaaGreatGan
import Derived.Test.YtdcfammglpebaaaGreatGaa
namespace Go.Proofs.YtdcfammglpebaaaGreat
open Go.RowKit
open V (RowL RowL.alloc RowL.lt RowL.cell RowL.fz RowL.kept)
open Sp (hid)
open Ba (stg lastP pivs Fits)
open Bm (ZI ZI.kept)
namespace Bp
theorem own_ix {B n:Nat} {w:World} {v:Value} {ps:List (Nat × Nat)} (q:Nat × Nat→Nat) (h:w.ownsRow B 3 1 v n ((ps.take n).map fun p => .int .i64 (q p:Int))) (hn:n = ps.length):∃ ao c,v = .slice ao n c∧n≤c∧IxR w ao n (fun k => q (ps.getD k (0,0))):=by
 have h':=h
 rcases h.2 with ⟨rfl,h0⟩ | ⟨g,cap,cur,rfl,h1,h2,h3,_⟩
 ·
  exact ⟨none,0,by rw [h0],by omega,fun hp => by omega⟩
 ·
  refine ⟨_,_,rfl,h3,fun hp => ⟨g,0,rfl,(World.ownsRow.lt h' g rfl).2,fun j hj => ?_⟩⟩
  rw [Nat.zero_add,h'.cellAt j (by omega),List.getElem?_map,List.getElem?_take_of_lt hj,List.getElem?_eq_getElem (by omega)]
  show some (Value.int .i64 (q ps[j]:Int)) = some (.int .i64 (q (ps.getD j (0,0)):Int))
  rw [List.getD_eq_getElem?_getD,List.getElem?_eq_getElem (by omega)]
  rfl
def detP (M:Nat→Nat→Int) (ps:List (Nat × Nat)) (n:Nat):Int:=if oddTo (fun k => (ps.getD k (0,0)).1) n = oddTo (fun k => (ps.getD k (0,0)).2) n then lastP M ps else -lastP M ps
set_option maxRecDepth 100000 in
set_option maxHeartbeats 16000000 in
theorem det_any (B fb n limbs:Nat) (sa:Option Addr) (sk sc:Nat) (Ss:List StC) (M:Nat→Nat→Int) (ps:List (Nat × Nat)) (w:World) (h:FacR B w fb n limbs sa sk sc Ss M ps) (hne:lastP M ps ≠ 0) (hn:sk≤48) :
  Calls Tryz.prog 24 #[.pointer (some ⟨fb,0,none⟩)] w (TellsZ w (detP M ps sk)):=by
 obtain ⟨z,hz0⟩:∃ z,z = detP M ps sk:=⟨_,rfl⟩
 rw [← hz0]
 have HZ0:=hid hz0
 clear hz0
 have hsk:=h.len
 have HH:=hid (And.intro h (And.intro hne hsk))
 have br:=RowL.alloc 37 w [.bool false,.slice none 0 0]
 have bk:=(Kept.refl w).alloc (.cells #[.bool false,.slice none 0 0] 37)
 clear h hne hsk
 go_enter Tryz.func24,Tryz.ntmps24
 go_upto_region 1 with fail
 generalize w.alloc (.cells #[.bool false,.slice none 0 0] 37) = w1 at br bk ⊢
 obtain ⟨p2,hp2⟩:∃ p,p = w.heap.size:=⟨_,rfl⟩
 rw [← hp2] at br ⊢
 have ho:=order_any B fb n limbs sa sk sc Ss M ps w1 (HH.out.1.kept bk) hn
 have H1:=hid (And.intro br (And.intro bk hp2))
 clear br bk hp2
 --%A
 go_wp2_with fail
 refine ho.mono ?_
 rintro e w2 ⟨hk,va,vb,rfl,hra,hrb,_⟩
 obtain ⟨ao,ac,rfl,hac,hia⟩:=own_ix Prod.fst hra HH.out.2.2
 obtain ⟨bo,bc,rfl,hbc,hib⟩:=own_ix Prod.snd hrb HH.out.2.2
 have hoa:=odd_any ao sk ac _ w2 hia (by omega) hac
 have hob:=odd_any bo sk bc _ w2 hib (by omega) hbc
 have H2:=hid (And.intro (H1.out.1.kept hk) (And.intro (H1.out.2.1.trans hk) H1.out.2.2))
 have hla:=last_any B fb n limbs sa sk sc Ss M ps w2 (HH.out.1.kept H2.out.2.1) HH.out.2.1 (by omega)
 obtain ⟨pa,hpa⟩:∃ x,x = oddTo (fun k => (ps.getD k (0,0)).1) sk:=⟨_,rfl⟩
 obtain ⟨pb,hpb⟩:∃ x,x = oddTo (fun k => (ps.getD k (0,0)).2) sk:=⟨_,rfl⟩
 rw [← hpa] at hoa
 rw [← hpb] at hob
 have HZ:=hid (show z = if pa = pb then lastP M ps else -lastP M ps by rw [HZ0.out]; unfold detP; rw [hpa,hpb])
 clear hk hra hrb hia hib ho hac hbc hpa hpb
 cases pa with
 | false =>
  cases pb with
  | false =>
   go_wp2_with fail
   refine hoa.mono ?_
   rintro e w' ⟨rfl,rfl⟩
   go_wp2_with fail
   refine hob.mono ?_
   rintro e w' ⟨rfl,rfl⟩
   clear hoa hob
   --%C
   go_wp2_with fail
   refine hla.mono ?_
   rintro e w3 ⟨hk,s,o,k,c,rfl,hz⟩
   have H9:=hid (show RowL 37 w3 p2 [.bool false,.slice none 0 0]∧Kept w w3∧ZN w'.heap.size w3 s (.slice o k c) (lastP M ps)∧w.heap.size≤p2∧p2 < w'.heap.size∧w.heap.size≤w'.heap.size from ⟨H2.out.1.kept hk,H2.out.2.1.trans hk,hz,by rw [H2.out.2.2]; exact Nat.le_refl _,H2.out.1.lt,(H2.out.2.1).size⟩)
   clear hla hk hz
   have r9:=H9.out.1
   have d0:=r9.cell 0 _
   have d1:=r9.cell 1 _
   have f0:=r9.fz 0
   have f1:=r9.fz 1
   clear r9
   --%D
   go_wp2_with fail
   refine bodyPost_ret (v:=.agg #[.bool s,.slice o k c]) (by simp [results,Tryz.results24,go_sem,d0,d1]) rfl ⟨?_,s,o,k,c,rfl,?_⟩
   ·
    exact (H9.out.2.1.setCell (by simpa using H9.out.2.2.2.1) _).setCell (by simpa using H9.out.2.2.2.1) _
   ·
    rw [HZ.out,if_pos (by trivial)]
    exact ((H9.out.2.2.1.other (by simpa using H9.out.2.2.2.2.1) _).other (by simpa using H9.out.2.2.2.2.1) _).mono H9.out.2.2.2.2.2
  | true =>
   go_wp2_with fail
   refine hoa.mono ?_
   rintro e w' ⟨rfl,rfl⟩
   go_wp2_with fail
   refine hob.mono ?_
   rintro e w' ⟨rfl,rfl⟩
   clear hoa hob
   --%E
   go_wp2_with fail
   refine hla.mono ?_
   rintro e w3 ⟨hk3,s3,o3,k3,c3,rfl,hz3⟩
   have hop:=oppo_any s3 o3 k3 c3 (lastP M ps) w3 hz3.zi
   have K3:=hid (And.intro (H2.out.1.kept hk3) (And.intro (H2.out.2.1.trans hk3) H2.out.2.2))
   clear hla hk3 hz3
   go_wp2_with fail
   refine hop.mono ?_
   rintro e w4 ⟨hk,s,o,k,c,rfl,hz⟩
   have H9:=hid (show RowL 37 w4 p2 [.bool false,.slice none 0 0]∧Kept w w4∧ZN w3.heap.size w4 s (.slice o k c) (-lastP M ps)∧w.heap.size≤p2∧p2 < w3.heap.size∧w.heap.size≤w3.heap.size from ⟨K3.out.1.kept hk,K3.out.2.1.trans hk,hz,by rw [K3.out.2.2]; exact Nat.le_refl _,K3.out.1.lt,(K3.out.2.1).size⟩)
   clear hop hk hz
   have r9:=H9.out.1
   have d0:=r9.cell 0 _
   have d1:=r9.cell 1 _
   have f0:=r9.fz 0
   have f1:=r9.fz 1
   clear r9
   --%D
   go_wp2_with fail
   refine bodyPost_ret (v:=.agg #[.bool s,.slice o k c]) (by simp [results,Tryz.results24,go_sem,d0,d1]) rfl ⟨?_,s,o,k,c,rfl,?_⟩
   ·
    exact (H9.out.2.1.setCell (by simpa using H9.out.2.2.2.1) _).setCell (by simpa using H9.out.2.2.2.1) _
   ·
    rw [HZ.out,if_neg (by decide)]
    exact ((H9.out.2.2.1.other (by simpa using H9.out.2.2.2.2.1) _).other (by simpa using H9.out.2.2.2.2.1) _).mono H9.out.2.2.2.2.2
 | true =>
  cases pb with
  | false =>
   go_wp2_with fail
   refine hoa.mono ?_
   rintro e w' ⟨rfl,rfl⟩
   go_wp2_with fail
   refine hob.mono ?_
   rintro e w' ⟨rfl,rfl⟩
   clear hoa hob
   --%E
   go_wp2_with fail
   refine hla.mono ?_
   rintro e w3 ⟨hk3,s3,o3,k3,c3,rfl,hz3⟩
   have hop:=oppo_any s3 o3 k3 c3 (lastP M ps) w3 hz3.zi
   have K3:=hid (And.intro (H2.out.1.kept hk3) (And.intro (H2.out.2.1.trans hk3) H2.out.2.2))
   clear hla hk3 hz3
   go_wp2_with fail
   refine hop.mono ?_
   rintro e w4 ⟨hk,s,o,k,c,rfl,hz⟩
   have H9:=hid (show RowL 37 w4 p2 [.bool false,.slice none 0 0]∧Kept w w4∧ZN w3.heap.size w4 s (.slice o k c) (-lastP M ps)∧w.heap.size≤p2∧p2 < w3.heap.size∧w.heap.size≤w3.heap.size from ⟨K3.out.1.kept hk,K3.out.2.1.trans hk,hz,by rw [K3.out.2.2]; exact Nat.le_refl _,K3.out.1.lt,(K3.out.2.1).size⟩)
   clear hop hk hz
   have r9:=H9.out.1
   have d0:=r9.cell 0 _
   have d1:=r9.cell 1 _
   have f0:=r9.fz 0
   have f1:=r9.fz 1
   clear r9
   --%D
   go_wp2_with fail
   refine bodyPost_ret (v:=.agg #[.bool s,.slice o k c]) (by simp [results,Tryz.results24,go_sem,d0,d1]) rfl ⟨?_,s,o,k,c,rfl,?_⟩
   ·
    exact (H9.out.2.1.setCell (by simpa using H9.out.2.2.2.1) _).setCell (by simpa using H9.out.2.2.2.1) _
   ·
    rw [HZ.out,if_neg (by decide)]
    exact ((H9.out.2.2.1.other (by simpa using H9.out.2.2.2.2.1) _).other (by simpa using H9.out.2.2.2.2.1) _).mono H9.out.2.2.2.2.2
  | true =>
   go_wp2_with fail
   refine hoa.mono ?_
   rintro e w' ⟨rfl,rfl⟩
   go_wp2_with fail
   refine hob.mono ?_
   rintro e w' ⟨rfl,rfl⟩
   clear hoa hob
   --%C
   go_wp2_with fail
   refine hla.mono ?_
   rintro e w3 ⟨hk,s,o,k,c,rfl,hz⟩
   have H9:=hid (show RowL 37 w3 p2 [.bool false,.slice none 0 0]∧Kept w w3∧ZN w'.heap.size w3 s (.slice o k c) (lastP M ps)∧w.heap.size≤p2∧p2 < w'.heap.size∧w.heap.size≤w'.heap.size from ⟨H2.out.1.kept hk,H2.out.2.1.trans hk,hz,by rw [H2.out.2.2]; exact Nat.le_refl _,H2.out.1.lt,(H2.out.2.1).size⟩)
   clear hla hk hz
   have r9:=H9.out.1
   have d0:=r9.cell 0 _
   have d1:=r9.cell 1 _
   have f0:=r9.fz 0
   have f1:=r9.fz 1
   clear r9
   --%D
   go_wp2_with fail
   refine bodyPost_ret (v:=.agg #[.bool s,.slice o k c]) (by simp [results,Tryz.results24,go_sem,d0,d1]) rfl ⟨?_,s,o,k,c,rfl,?_⟩
   ·
    exact (H9.out.2.1.setCell (by simpa using H9.out.2.2.2.1) _).setCell (by simpa using H9.out.2.2.2.1) _
   ·
    rw [HZ.out,if_pos (by trivial)]
    exact ((H9.out.2.2.1.other (by simpa using H9.out.2.2.2.2.1) _).other (by simpa using H9.out.2.2.2.2.1) _).mono H9.out.2.2.2.2.2
end Bp
end Go.Proofs.YtdcfammglpebaaaGreat

namespace Go.Proofs.YtdcfammglpebaaaGreat
open Go.RowKit
open Sy
open Bm (ZI ZI.kept ZI.of MxR ZsR mOk rowZ xz rowZ_take)
open Ba (stg lastP pivs wideZ facS Fits IsSol isum)
namespace Bp
theorem fac0_len {n l:Nat} {M:Nat→Nat→Int} {ps:List (Nat × Nat)} (hs:facS n l M = (ps,0)):ps.length = n:=by
 obtain ⟨qs,e,h1,_,h2⟩:=Ba.fac_is (n:=n) (limbs:=l) (M:=M)
 rw [hs] at h1
 cases h1
 rcases h2 with ⟨_,h2,_⟩ | ⟨h2,_⟩ | ⟨h2,_⟩
 ·
  exact h2
 ·
  cases h2
 ·
  cases h2
section
variable {n:Nat} {M:Nat→Nat→Int} {b:Nat→Int} {ps:List (Nat × Nat)}
def solX (n:Nat) (M:Nat→Nat→Int) (b:Nat→Int) (ps:List (Nat × Nat)) (j:Nat):Int:=if lastP M ps < 0 then -bkA n M b ps j else bkA n M b ps j
def solD (M:Nat→Nat→Int) (ps:List (Nat × Nat)):Int:=if lastP M ps < 0 then -lastP M ps else lastP M ps
end
theorem SolIs.cases {w:World} {n m limbs:Nat} {bq:Nat→Bool} {M:Nat→Nat→Int} {b:Nat→Int} {ps:List (Nat × Nat)} {e:Ending} {w':World} (h:SolIs w n m limbs bq M b ps (bkA n M b ps) e w') :
  Kept w w'∧((∃ c:Int,c ≠ 0∧e = solE c) ∨ (m = n∧(∀ j,j < m→bq j = true)∧∃ xo xc s o k c,e = .returned (.tuple #[.agg #[.slice xo n xc,.bool s,.slice o k c],.int .i64 0])∧SdX (EN w.heap.size) w.heap.size w' xo n xc (solX n M b ps)∧ZN w.heap.size w' s (.slice o k c) (solD M ps))):=by
 obtain ⟨hk,⟨_,rfl⟩ | ⟨_,_,rfl⟩ | ⟨h1,h2,⟨_,rfl⟩ | ⟨_,⟨_,rfl⟩ | ⟨_,xo,xc,s,o,k,c,rfl,hX,hD⟩⟩⟩⟩:=h
 ·
  exact ⟨hk,.inl ⟨5,by decide,rfl⟩⟩
 ·
  exact ⟨hk,.inl ⟨10,by decide,rfl⟩⟩
 ·
  exact ⟨hk,.inl ⟨13,by decide,rfl⟩⟩
 ·
  exact ⟨hk,.inl ⟨13,by decide,rfl⟩⟩
 ·
  refine ⟨hk,.inr ⟨h1,fun j hj => ?_,xo,xc,s,o,k,c,rfl,hX,hD⟩⟩
  cases e:bq j with
  | true => rfl
  | false =>
   have:anyB (fun j => !bq j) m = true:=anyB_ex.2 ⟨j,hj,by rw [e]; rfl⟩
   rw [h2] at this
   cases this
end Bp
end Go.Proofs.YtdcfammglpebaaaGreat

namespace Go.Proofs.YtdcfammglpebaaaGreat
open Ba (stg lastP pivs wideZ wideM nz facGo facS Fits IsSol isum ext bstep leftR leftC leftR_iff leftC_iff stg_snoc)
namespace Bp
section
variable {n:Nat} {M:Nat→Nat→Int} {b c:Nat→Int} {ps:List (Nat × Nat)}
end
def idK (k:Nat):Nat→Nat→Int:=fun i j => if i = j∧k≤i then 1 else 0
def dg (k:Nat):List (Nat × Nat):=(List.range k).map fun i => (i,i)
end Bp
end Go.Proofs.YtdcfammglpebaaaGreat

namespace Go.Proofs.YtdcfammglpebaaaGreat
namespace Bp
theorem sum_done {n:Nat} {f X:Nat→Int} {D:List Nat} (hn:D.Nodup) (hD:∀ k ∈ D,k < n) (hd:∀ k,f k ≠ 0→k ∈ D):(D.map fun c => f c * X c).sum = msum n f X:=by
 unfold msum
 rw [← sum_perm (Ba.rest_perm hn hD),List.map_append,List.sum_append]
 rw [show (((List.range n).filter fun a => !D.contains a).map fun c => f c * X c).sum = 0 from sum_null fun c hc => by
  have h1:=(List.mem_filter.1 hc).2
  have:f c = 0:=Classical.byContradiction fun e => by have:=hd c e; simp [this] at h1
  rw [this,Int.zero_mul]]
 omega
theorem sum_bound {f X:Nat→Int} {W:Nat} {D:List Nat} (hf:∀ k ∈ D,(f k).natAbs≤W) (hX:∀ k ∈ D,(X k).natAbs≤W):((D.map fun c => f c * X c).sum).natAbs≤D.length * (W * W):=by
 induction D with
 | nil => exact Nat.zero_le _
 | cons a t ih =>
  have h1:=ih (fun k hk => hf k (List.mem_cons_of_mem _ hk)) (fun k hk => hX k (List.mem_cons_of_mem _ hk))
  have h2:(f a * X a).natAbs≤W * W:=by
   rw [Int.natAbs_mul]
   exact Nat.mul_le_mul (hf a (List.mem_cons_self ..)) (hX a (List.mem_cons_self ..))
  rw [List.map_cons,List.sum_cons,List.length_cons,Nat.succ_mul]
  have h3:=Int.natAbs_add_le (f a * X a) ((t.map fun c => f c * X c).sum)
  omega
end Bp
end Go.Proofs.YtdcfammglpebaaaGreat

namespace Go.Proofs.YtdcfammglpebaaaGreat
open Ba (stg lastP pivs Fits facS wideZ leftR_iff leftC_iff)
namespace Bp
theorem lim49:49 * 4294967296 ^ 64 < M.W72:=by unfold M.W72; decide
theorem t49 (p:Nat):49 * p = 48 * p + p:=by omega
theorem lim_core {u v:Int} {l p m:Nat} (h1:v.natAbs≤l * p) (h2:u.natAbs < p) (hl:l≤48) (h4:49 * p < m):(u - v).natAbs < m:=by
 have h3:l * p≤48 * p:=Nat.mul_le_mul_right _ hl
 have h5:=t49 p
 have h6:=Int.natAbs_sub_le u v
 omega
theorem lim_one {u:Int} {p m:Nat} (h2:u.natAbs < p) (h4:49 * p < m):u.natAbs < m:=by omega
section
variable {n limbs:Nat} {M:Nat→Nat→Int} {b:Nat→Int} {ps:List (Nat × Nat)}
theorem last_lim (h:Fits n M ps) (hl:ps.length = n) (hs:facS n limbs M = (ps,0)) (hL:limbs≤32) (h0:0 < n):(lastP M ps).natAbs < W32:=by
 obtain ⟨j,hj⟩:∃ j,n = j + 1:=⟨n - 1,by omega⟩
 have hjP:j < ps.length:=by omega
 have he:lastP M ps = stg M (ps.take j) ps[j].1 ps[j].2:=by
  have h1:=(Ba.stg_snoc M (ps.take j) ps[j].1 ps[j].2).2
  rw [← take_snoc hjP,List.take_of_length_le (by omega)] at h1
  exact h1
 rw [he]
 have hm:=h.lt _ (List.getElem_mem hjP)
 exact not_wide_32 hL (fac_num hs (by omega) hm.1 hm.2 (row_at h.rows hjP) (col_at h.cols hjP))
theorem acr_lim (hs:facS n limbs M = (ps,0)) (hL:limbs≤32) {j:Nat} (hj:j < ps.length) (c:Nat):(acr n M ps j c).natAbs < W32:=by
 unfold acr
 split
 ·
  exact w32_pos
 ·
  unfold stF
  split
  ·
   rename_i h1
   exact not_wide_32 hL (fac_num hs (by omega) h1.1.1 h1.1.2 (leftR_iff.1 h1.2.1) (leftC_iff.1 h1.2.2))
  ·
   exact w32_pos
structure StN (n:Nat) (M:Nat→Nat→Int) (b:Nat→Int) (ps:List (Nat × Nat)) (j r c:Nat):Prop where
 hr:r < n
 hc:c < n
 piv:stg M (ps.take j) r c ≠ 0
 side:(sdF n M b ps r).natAbs < W32
 last:(lastP M ps).natAbs < W32
 acr:∀ k,(acr n M ps j k).natAbs < W32
 er:ps.getD j (0,0) = (r,c)
theorem StN.of (h:Fits n M ps) (hl:ps.length = n) (hs:facS n limbs M = (ps,0)) (hL:limbs≤32) (hW:sdW n limbs M b ps n = false) {j:Nat} (hj:j < ps.length):StN n M b ps j ps[j].1 ps[j].2:=by
 have hm:=h.lt _ (List.getElem_mem hj)
 refine ⟨hm.1,hm.2,?_,?_,last_lim h hl hs hL (by omega),acr_lim hs hL hj,getD_at hj⟩
 ·
  have:=Ba.pivs_take h.piv (j + 1)
  rw [take_snoc hj] at this
  exact ((Ba.pivs_snoc _ _ _ _).1 this).2
 ·
  have:=sdW_num hW hL hm.1
  rw [List.take_of_length_le (by omega)] at this
  exact this
def rsD (n:Nat) (M:Nat→Nat→Int) (b:Nat→Int) (ps:List (Nat × Nat)) (X:Nat→Int) (j r:Nat) (D:List Nat):Int:=lastP M ps * sdF n M b ps r - (D.map fun c => acr n M ps j c * X c).sum
theorem rsD_cons {X:Nat→Int} {j r k:Nat} {D:List Nat}:rsD n M b ps X j r (k :: D) = rsD n M b ps X j r D - acr n M ps j k * X k:=by
 unfold rsD
 rw [List.map_cons,List.sum_cons]
 omega
theorem w32_sq:W32 * W32 = 4294967296 ^ 64:=by unfold W32; rw [← Nat.pow_add]
theorem rsD_lim {X:Nat→Int} {j r c:Nat} (h:StN n M b ps j r c) (hX:∀ k,k < n→(X k).natAbs < W32) {D:List Nat} (hD:∀ k ∈ D,k < n) (hl:D.length≤48):(rsD n M b ps X j r D).natAbs < _root_.Go.Proofs.YtdcfammglpebaaaGreat.M.W72:=by
 have h1:=sum_bound (f:=acr n M ps j) (X:=X) (W:=W32) (D:=D) (fun k _ => Nat.le_of_lt (h.acr k)) (fun k hk => Nat.le_of_lt (hX k (hD k hk)))
 have h2:=lim_mul h.last h.side
 rw [w32_sq] at h1
 exact lim_core h1 h2 hl lim49
theorem mul_lim {x y:Int} (hx:x.natAbs < W32) (hy:y.natAbs < W32):(x * y).natAbs < _root_.Go.Proofs.YtdcfammglpebaaaGreat.M.W72:=by
 exact lim_one (lim_mul hx hy) lim49
theorem rsD_done {X:Nat→Int} {j r:Nat} {D:List Nat} (hn:D.Nodup) (hD:∀ k ∈ D,k < n) (hd:∀ k,acr n M ps j k ≠ 0→k ∈ D):rsD n M b ps X j r D = lastP M ps * sdF n M b ps r - msum n (acr n M ps j) X:=by
 unfold rsD
 rw [sum_done hn hD hd]
def clip (n x:Nat):Nat:=min x (n - 1)
theorem clip_lt {n x:Nat} (h:0 < n):clip n x < n:=by unfold clip; omega
theorem clip_eq {n x:Nat} (h:x < n):clip n x = x:=by unfold clip; omega
theorem clip_dn {n k:Nat} (hk:k≤n):(dn n k).map (clip n) = dn n k:=by
 unfold dn
 rw [List.map_map]
 refine List.map_congr_left fun i hi => ?_
 rw [List.mem_range] at hi
 show clip n (n - 1 - i) = n - 1 - i
 exact clip_eq (by omega)
end
end Bp
end Go.Proofs.YtdcfammglpebaaaGreat

namespace Go.Proofs.YtdcfammglpebaaaGreat
open Ba (stg lastP pivs wideZ wideM facS Fits cast tr2)
namespace Bp
def opF (p q:Nat) (f:Int) (M:Nat→Nat→Int):Nat→Nat→Int:=fun i k => if i = p then f * M (tr2 p q i) k else M (tr2 p q i) k
def opB (p q:Nat) (f:Int) (b:Nat→Int):Nat→Int:=fun i => if i = p then f * b (tr2 p q i) else b (tr2 p q i)
theorem tr2_tr2 (p q i:Nat):tr2 p q (tr2 p q i) = i:=by
 unfold tr2
 repeat' split
 all_goals omega
theorem tr2_lt {p q i n:Nat} (hp:p < n) (hq:q < n) (hi:i < n):tr2 p q i < n:=by
 unfold tr2
 repeat' split
 all_goals omega
section
variable {n p q:Nat} {M N:Nat→Nat→Int} {f:Int}
end
end Bp
end Go.Proofs.YtdcfammglpebaaaGreat

namespace Go.Proofs.YtdcfammglpebaaaGreat
open Ba (stg lastP pivs wideZ wideM nz facGo facS Fits IsSol isum ext bstep leftR leftC leftR_iff leftC_iff stg_snoc)
namespace Bp
def idn (n k:Nat):Nat→Nat→Int:=fun i j => if i = j∧k≤i∧i < n then 1 else 0
end Bp
end Go.Proofs.YtdcfammglpebaaaGreat

namespace Go.Proofs.YtdcfammglpebaaaGreat
open Go.RowKit
open V (RowL RowL.alloc RowL.lt RowL.cell RowL.fz RowL.kept)
open Sp (hid)
open Sy
open Ba (stg lastP facS Fits)
open Bm (ZI ZI.kept MxR mxr_at mxr_kept cel_at mOk)
namespace Bp
set_option maxRecDepth 100000 in
set_option maxHeartbeats 8000000 in
theorem rightRow_any (ao:Option Addr) (rl cap n:Nat) (L:List CE) (w:World) (h:CsR w ao L) (hl:rl = L.length) (hrl:rl≤1000000) (hn:n≤1000000) :
    Calls Tryz.prog 69 #[.slice ao rl cap,.int .i64 (n:Int)] w fun e w' => Kept w w'∧e = .returned (.bool (cOk n (-1) L)):=by
  have HL:=hid (And.intro h hl)
  obtain ⟨z,hz⟩:∃ z,z = cOk n (-1) L:=⟨_,rfl⟩
  have HZ:=hid (show z = cOk n (0 - 1) (L.drop 0) from hz)
  rw [← hz]
  clear h hl hz
  go_enter Tryz.func69,Tryz.ntmps69
  go_wp2_with fail
  go_loopw [5,10] (fun v5 v10 wr => ∃ (k:Nat) (x:Int),k≤rl∧0≤x∧x≤(n:Int)∧v5 = .int .i64 x∧v10 = .int .i64 (k:Int)∧Hid (Kept w wr∧z = cOk n (x - 1) (L.drop k))) (fun _ v10 _ => rl - (intOf v10).toNat)
  case atStart => exact ⟨0,0,Nat.zero_le _,Int.le_refl _,Int.natCast_nonneg _,rfl,rfl,Kept.refl _,HZ.out⟩
  case round =>
    clear HZ
    obtain ⟨k,x,hkl,hx0,hxn,rfl,rfl,H⟩:=hrel
    generalize wr = w1 at H ⊢
    by_cases hkt:k < rl
    · have hkk:(k:Int) < (rl:Int):=by omega
      have hk0:(0:Int)≤(k:Int):=by omega
      have hkL:k < L.length:=by have:=HL.out.2; omega
      obtain ⟨b,off,y,m,zo,zc,zl,rfl,hce,hc,hok⟩:=cel_at HL.out.1 hkL
      have HZE:=hid hok
      obtain ⟨c0,c1,c2⟩:=hc _ H.out.1
      obtain ⟨xr,hxr⟩:∃ x,x = ZE.right ⟨m,zo,zc,zl⟩:=⟨_,rfl⟩
      obtain ⟨xn,hxn2⟩:∃ x,x = ZE.nought ⟨m,zo,zc,zl⟩:=⟨_,rfl⟩
      have HN:=hid (show z = (((decide (x - 1 < y) && decide (y < (n:Int))) && (xr && !xn)) && cOk n y (L.drop (k + 1))) by rw [H.out.2,cOk_at hkL,hce,hxr,hxn2])
      have HX:=hid (And.intro hxr hxn2)
      have HK:=hid H.out.1
      have hzl:zl.length≤9223372036854775807:=hok.2
      obtain ⟨nl,hnl⟩:∃ q,q = zl.length:=⟨_,rfl⟩
      rw [← hnl] at c2 hzl
      have HNL:=hid hnl
      have kA:=HK.out.alloc (.cells #[.int .i64 y,.bool m,.slice zo nl zc] 39)
      have rA:=RowL.alloc 39 w1 [.int .i64 y,.bool m,.slice zo nl zc]
      clear hc hok hce H hxr hxn2 hnl
      go_upto_region 5 with fail
      generalize w1.alloc (.cells #[.int .i64 y,.bool m,.slice zo nl zc] 39) = W at kA rA ⊢
      obtain ⟨q,hq⟩:∃ q,q = w1.heap.size:=⟨_,rfl⟩
      rw [← hq] at rA ⊢
      have HW:=hid (And.intro kA rA)
      have d0:=rA.cell 0 _
      have d1:=rA.cell 1 _
      have d2:=rA.cell 2 _
      clear kA rA hq c0 c1 c2 HK
      --%B
      by_cases e1:y < x
      · have HE:=hid (show z = false by rw [HN.out,decide_eq_false (show ¬ x - 1 < y by omega)]; rfl)
        go_wp2_with fail
        go_ret
        exact ⟨HW.out.1,by rw [HE.out]; rfl⟩
      · by_cases e2:(n:Int)≤y
        · have HE:=hid (show z = false by rw [HN.out,decide_eq_false (show ¬ y < (n:Int) by omega),Bool.and_false]; rfl)
          go_wp2_with fail
          go_ret
          exact ⟨HW.out.1,by rw [HE.out]; rfl⟩
        · have HN:=hid (show z = ((xr && !xn) && cOk n (y + 1 - 1) (L.drop (k + 1))) by rw [HN.out,decide_eq_true (show x - 1 < y by omega),decide_eq_true (show y < (n:Int) by omega),Bool.true_and,Bool.true_and,Int.add_sub_cancel])
          go_wp2_with fail
          --%C
          have h9:=nought_any m zo nl zc W
          have h9:Calls Tryz.prog 102 #[.agg #[.bool m,.slice zo nl zc]] W fun e w' => Kept W w'∧e = .returned (.bool xn):=by rw [HX.out.2]; unfold ZE.nought; rw [← HNL.out]; exact h9
          refine h9.mono ?_
          clear h9
          rintro e w2 ⟨hk,rfl⟩
          have HW:=hid (And.intro (HW.out.1.trans hk) (HW.out.2.kept hk))
          clear d0 d1 d2 hk
          have d0:=HW.out.2.cell 0 _
          have d1:=HW.out.2.cell 1 _
          have d2:=HW.out.2.cell 2 _
          cases xn with
          | true =>
            have HE:=hid (show z = false by rw [HN.out]; simp)
            go_wp2_with fail
            go_ret
            exact ⟨HW.out.1,by rw [HE.out]; rfl⟩
          | false =>
            --%D
            have hck:Calls Tryz.prog 81 #[.agg #[.bool m,.slice zo nl zc]] w2 fun e w' => Kept w2 w'∧e = .returned (.int .i64 (if xr = true then 0 else 10)):=by
              have hz:=HZE.out.kept HW.out.1
              have hz1:Sl w2 (.slice zo nl zc) zl:=by rw [HNL.out]; exact hz.1
              by_cases hr:R m zl
              · have e:xr = true:=by rw [HX.out.1]; exact right_R.2 hr
                rw [if_pos e]
                exact (check_yes m _ zl w2 hz1 hr).mono fun e w' ⟨a,b⟩ => ⟨b,a⟩
              · have e:¬ xr = true:=by rw [HX.out.1]; exact fun e => hr (right_R.1 e)
                rw [if_neg e]
                exact (check_no m _ zl w2 hz1 hz.2 hr).mono fun e w' ⟨a,b⟩ => ⟨b,a⟩
            cases xr with
            | false =>
              have hck:Calls Tryz.prog 81 #[.agg #[.bool m,.slice zo nl zc]] w2 fun e w' => Kept w2 w'∧e = .returned (.int .i64 10):=hck
              have HE:=hid (show z = false by rw [HN.out]; rfl)
              go_wp2_with fail
              refine hck.mono ?_
              rintro e w3 ⟨hk,rfl⟩
              have HK3:=hid (HW.out.1.trans hk)
              clear hk
              go_wp2_with fail
              go_ret
              exact ⟨HK3.out,by rw [HE.out]; rfl⟩
            | true =>
              have hck:Calls Tryz.prog 81 #[.agg #[.bool m,.slice zo nl zc]] w2 fun e w' => Kept w2 w'∧e = .returned (.int .i64 0):=hck
              have HE:=hid (show z = cOk n (y + 1 - 1) (L.drop (k + 1)) by rw [HN.out]; rfl)
              go_wp2_with fail
              refine hck.mono ?_
              rintro e w3 ⟨hk,rfl⟩
              have HW:=hid (And.intro (HW.out.1.trans hk) (HW.out.2.kept hk))
              clear d0 d1 d2 hk
              have d0:=HW.out.2.cell 0 _
              go_wp2_with fail
              go_roundw
              case rel => exact ⟨k + 1,y + 1,by omega,by omega,by omega,by go_num,by go_num,HW.out.1,HE.out⟩
              case measure => show rl - ((k:Int) + 1).toNat < rl - (k:Int).toNat; omega
    · have hkk:¬ (k:Int) < (rl:Int):=by omega
      have HE:=hid (show z = true by rw [H.out.2,List.drop_eq_nil_of_le (by have:=HL.out.2; omega)]; rfl)
      go_wp2_with fail
      go_ret
      exact ⟨H.out.1,by rw [HE.out]; rfl⟩
theorem enter_right (args:Array Value) (w:World):(callFunc 68 args).run Tryz.prog w = .ok (.enter 68 args) w:=by simp
def RwQ (L:List LE):World→Nat→Value→Prop:=fun W j v => ∃ ra rc,v = .slice ra (L.getD j ⟨none,0,[]⟩).cs.length rc∧CsR W ra (L.getD j ⟨none,0,[]⟩).cs
theorem RwQ.kept {L:List LE}:∀ (w w':World) (j:Nat) (v:Value),Kept w w'→RwQ L w j v→RwQ L w' j v:=by
  rintro w w' j v k ⟨ra,rc,h1,h2⟩
  exact ⟨ra,rc,h1,csr_kept h2 k⟩
set_option maxRecDepth 100000 in
set_option maxHeartbeats 4000000 in
theorem right1_any (cs:List CE) (ra:Option Addr) (rc:Nat) (ao:Option Addr) (n c p:Nat) (w:World) (h:CsR w ra cs) (hl:cs.length≤1000000) (hn:n≤1000000) (hc:w.cell? ⟨p,0,none⟩ = some (.slice ao n c)) :
    Calls Tryz.prog 68 #[.slice ra cs.length rc,.pointer (some ⟨p,0,none⟩)] w fun e w' => e = .returned (.bool (!cOk n (-1) cs))∧Kept w w':=by
  have hr:=rightRow_any ra cs.length rc n cs w h rfl hl hn
  generalize cs.length = rl at hr ⊢
  generalize cOk n (-1) cs = bb at hr ⊢
  clear h hl
  go_enter Tryz.func68,Tryz.ntmps68
  go_wp2_with fail
  refine hr.mono ?_
  rintro e w1 ⟨hk,rfl⟩
  have HK:=hid hk
  clear hk
  go_wp2_with fail
  go_ret
  exact ⟨by simp,HK.out⟩
set_option maxRecDepth 100000 in
set_option maxHeartbeats 4000000 in
theorem right_any (ao:Option Addr) (n c:Nat) (L:List LE) (w:World) (h:MxR w ao L) (hl:n = L.length) (hr:∀ l ∈ L,l.cs.length≤1000000) (hn:n≤1000000) :
    Calls Tryz.prog 33 #[.slice ao n c] w fun e w' => Kept w w'∧e = .returned (.bool (mOk L)):=by
  have HL:=hid (And.intro h (And.intro hl hr))
  have hm:mOk L = (decide (n≤48) && !anyB (fun j => !cOk n (-1) (L.getD j ⟨none,0,[]⟩).cs) n):=by
    unfold mOk
    rw [← hl]
    congr 1
    rw [Bool.eq_iff_iff,List.all_eq_true,Bool.not_eq_true',← Bool.not_eq_true,anyB_ex]
    constructor
    · rintro h ⟨j,hj,e⟩
      have hj':j < L.length:=by omega
      rw [List.getD_eq_getElem?_getD,List.getElem?_eq_getElem hj'] at e
      have:=h L[j] (List.getElem_mem hj')
      simp only [Option.getD_some] at e
      rw [this] at e
      cases e
    · intro h r hr
      obtain ⟨j,hj,rfl⟩:=List.getElem_of_mem hr
      cases e:cOk n (-1) L[j].cs with
      | true => rfl
      | false =>
        exfalso
        refine h ⟨j,by omega,?_⟩
        rw [List.getD_eq_getElem?_getD,List.getElem?_eq_getElem hj]
        simp only [Option.getD_some]
        rw [e]; rfl
  obtain ⟨z,hz⟩:∃ z,z = mOk L:=⟨_,rfl⟩
  rw [← hz] at hm ⊢
  have HM:=hid hm
  clear h hl hr hz hm
  have r:=RowL.alloc 22 w [.slice ao n c]
  have k:=(Kept.refl w).alloc (.cells #[.slice ao n c] 22)
  go_enter Tryz.func33,Tryz.ntmps33
  go_upto_region 1 with fail
  generalize w.alloc (.cells #[.slice ao n c] 22) = W at r k ⊢
  obtain ⟨p,hp⟩:∃ p,p = w.heap.size:=⟨_,rfl⟩
  rw [← hp] at r ⊢
  clear hp
  have c0:=r.cell 0 _
  by_cases h48:48 < n
  · have HE:=hid (show z = false by rw [HM.out,decide_eq_false (by omega)]; rfl)
    have hz48:(48:Int) < (n:Int):=by omega
    have HK:=hid k
    clear k
    go_wp2_with fail
    go_ret
    exact ⟨HK.out,by rw [HE.out]; rfl⟩
  · have hz48:¬ (48:Int) < (n:Int):=by omega
    have HE:=hid (show z = !anyB (fun j => !cOk n (-1) (L.getD j ⟨none,0,[]⟩).cs) n by rw [HM.out,decide_eq_true (by omega),Bool.true_and])
    have hel:El1 isSl (RwQ L) W (.slice ao n c) n:=by
      refine ⟨ao,c,rfl,fun h0 => ?_⟩
      have h1:=mxr_kept HL.out.1 k
      have hn0:0 < L.length:=by have:=HL.out.2.1; omega
      obtain ⟨b,off,e,hb,hx⟩:=h1 hn0
      refine ⟨b,off,e,hb,fun j hj => ?_⟩
      have hj':j < L.length:=by have:=HL.out.2.1; omega
      obtain ⟨h2,h3⟩:=hx j hj'
      refine ⟨L[j].v,⟨_,_,_,rfl⟩,?_,L[j].ao,L[j].cap,?_,?_⟩
      · have:=h2 0 _ rfl
        rw [Nat.mul_one,Nat.add_zero] at this
        exact this
      · rw [List.getD_eq_getElem?_getD,List.getElem?_eq_getElem hj']; rfl
      · rw [List.getD_eq_getElem?_getD,List.getElem?_eq_getElem hj']; exact h3
    have hcon:=con_rows 68 #[.pointer (some ⟨p,0,none⟩)] (fun j => !cOk n (-1) (L.getD j ⟨none,0,[]⟩).cs) enter_right (RwQ L) RwQ.kept ao n c W (fun V j v K hj hq => by
      obtain ⟨ra,rc,rfl,hC⟩:=hq
      have hr:=r.kept K
      have hj':j < L.length:=by have:=HL.out.2.1; omega
      exact (right1_any _ ra rc ao n c p V hC (by rw [List.getD_eq_getElem?_getD,List.getElem?_eq_getElem hj']; exact HL.out.2.2 _ (List.getElem_mem hj')) (by omega) (hr.cell 0 _)).mono fun e w' ⟨a,b⟩ => ⟨a,K.trans b⟩) hel (by omega)
    rw [show anyB (fun j => !cOk n (-1) (L.getD j ⟨none,0,[]⟩).cs) n = !z by rw [HE.out]; simp] at hcon
    have HK:=hid k
    clear k hel
    go_wp2_with fail
    refine hcon.mono ?_
    rintro e w1 ⟨hk,rfl⟩
    have HK:=hid (HK.out.trans hk)
    clear hk hcon
    go_wp2_with fail
    go_ret
    exact ⟨HK.out,by simp⟩
def NewIs (L:List LE) (n:Nat) (limbs:Int) (w:World) (e:Ending) (w':World):Prop :=
  Kept w w'∧((mOk L = false∧e = .returned (.tuple #[.pointer none,.int .i64 0,.int .i64 130])) ∨
    (mOk L = true∧(limbs < 1 ∨ 32 < limbs)∧e = .returned (.tuple #[.pointer none,.int .i64 0,.int .i64 1])) ∨
    (mOk L = true∧(1≤limbs∧limbs≤32)∧∃ ps er,facS n limbs.toNat (matF L) = (ps,er)∧Fits n (matF L) ps ∧
      ((er ≠ 0∧e = .returned (.tuple #[.pointer none,.int .i64 (ps.length:Int),.int .i64 er])) ∨
       (er = 0∧∃ fb sa sk sc Ss,e = .returned (.tuple #[.pointer (some ⟨fb,0,none⟩),.int .i64 (ps.length:Int),.int .i64 0])∧FacR w.heap.size w' fb n limbs.toNat sa sk sc Ss (matF L) ps))))
set_option maxRecDepth 100000 in
set_option maxHeartbeats 8000000 in
theorem new_any (ao:Option Addr) (n c:Nat) (limbs:Int) (L:List LE) (w:World) (h:MxR w ao L) (hl:n = L.length) (hr:∀ l ∈ L,l.cs.length≤1000000) (hn:n≤1000000) (hb1:-9223372036854775808≤limbs) (hb2:limbs≤9223372036854775807) :
    Calls Tryz.prog 11 #[.slice ao n c,.int .i64 limbs] w (NewIs L n limbs w):=by
  obtain ⟨Q,hQ⟩:∃ Q,Q = NewIs L n limbs w:=⟨_,rfl⟩
  rw [← hQ]
  have HQ:=hid hQ
  clear hQ
  have hrt:=right_any ao n c L w h hl hr hn
  have HL:=hid (And.intro h (And.intro hl hr))
  clear h hl hr
  obtain ⟨ok,hok⟩:∃ x,x = mOk L:=⟨_,rfl⟩
  rw [← hok] at hrt
  have HO:=hid hok
  clear hok
  go_enter Tryz.func11,Tryz.ntmps11
  cases ok with
  | false =>
    go_wp2_with fail
    refine hrt.mono ?_
    rintro e w1 ⟨hk,rfl⟩
    have HK:=hid hk
    clear hk hrt
    go_wp2_with fail
    go_ret3
    rw [HQ.out]
    exact ⟨HK.out,.inl ⟨HO.out.symm,rfl⟩⟩
  | true =>
    by_cases h1:limbs < 1
    · go_wp2_with fail
      refine hrt.mono ?_
      rintro e w1 ⟨hk,rfl⟩
      have HK:=hid hk
      clear hk hrt
      go_wp2_with fail
      go_ret3
      rw [HQ.out]
      exact ⟨HK.out,.inr (.inl ⟨HO.out.symm,.inl h1,rfl⟩)⟩
    · by_cases h2:32 < limbs
      · go_wp2_with fail
        refine hrt.mono ?_
        rintro e w1 ⟨hk,rfl⟩
        have HK:=hid hk
        clear hk hrt
        go_wp2_with fail
        go_ret3
        rw [HQ.out]
        exact ⟨HK.out,.inr (.inl ⟨HO.out.symm,.inr h2,rfl⟩)⟩
      · obtain ⟨lm,rfl⟩:∃ k:Nat,limbs = (k:Int):=⟨limbs.toNat,by omega⟩
        have HLm:=hid (show 1≤lm∧lm≤32 by omega)
        --%A
        go_wp2_with fail
        refine hrt.mono ?_
        rintro e w1 ⟨hk,rfl⟩
        have HK:=hid hk
        clear hk hrt
        have rF:=RowL.alloc 80 w1 [.int .i64 (lm:Int),.slice none 0 0]
        have kF:=(Kept.refl w1).alloc (.cells #[.int .i64 (lm:Int),.slice none 0 0] 80)
        --%B
        go_upto_region 6 with fail
        generalize w1.alloc (.cells #[.int .i64 (lm:Int),.slice none 0 0] 80) = w2 at rF kF ⊢
        obtain ⟨fb,hfb⟩:∃ p,p = w1.heap.size:=⟨_,rfl⟩
        rw [← hfb] at rF ⊢
        have K2:=HK.out.trans kF
        have htb:=tableOf_any w.heap.size ao n c L w2 (mxr_kept HL.out.1 K2) HL.out.2.1 HO.out.symm K2.size
        have HF:=hid (And.intro rF (And.intro K2 (show w.heap.size≤fb by rw [hfb]; exact HK.out.size)))
        clear rF kF hfb K2
        --%C
        go_wp2_with fail
        refine htb.mono ?_
        rintro e w3 ⟨hk,v,rfl,bs,hU⟩
        obtain ⟨ta,tc,bt,rfl,hT⟩:=hU.tab HF.out.2.1.size
        have hM48:n≤48:=by
          have:=HO.out
          unfold mOk at this
          have:=this.symm
          rw [Bool.and_eq_true,decide_eq_true_eq] at this
          have h3:=HL.out.2.1
          omega
        have hT2:TabR w.heap.size w3 ta bt n (fun i => bs[i]?) (stF n (matF L) []):=hT.congr fun i j hi => by
          by_cases hj:j < n
          · rw [stF_nil hi hj]
          · have e1:matF L i j = 0:=by
              rcases Int.lt_trichotomy (matF L i j) 0 with h | h | h
              · exact absurd ((hT.row i hi).lt_n (k:=j) (by omega)) hj
              · exact h
              · exact absurd ((hT.row i hi).lt_n (k:=j) (by omega)) hj
            rw [e1]
            unfold stF
            rw [if_neg (fun e => hj e.1.2)]
        have hfac:FacR w.heap.size w3 fb n lm none 0 0 [] (matF L) []:=⟨HF.out.1.kept hk,HF.out.2.2,⟨rfl,World.ownsRow_nil _ _ _ _,fun j hj => absurd hj (Nat.not_lt_zero _)⟩⟩
        have hft:=factor_any w.heap.size fb n lm bt (fun i => bs[i]?) (matF L) ta tc w3 hfac hT2 (fun i hi => ⟨bs[i]'(by rw [hU.len]; exact hi),by rw [List.getElem?_eq_getElem]⟩) hM48 HLm.out.2 (HF.out.2.1.trans hk).size
        have HK3:=hid (HF.out.2.1.trans hk)
        clear hk htb hU hT hT2 hfac
        --%D
        go_wp2_with fail
        refine hft.mono ?_
        rintro e w4 ⟨hx,er,ps,sa,sk,sc,Ss,rfl,hfs,hfi,hfac⟩
        have HK4:=hid (KX.kept HK3.out hx (fun k hk => hk))
        have hsk:=hfac.len
        have c1:=hfac.box.cell 1 _
        have HR:=hid (And.intro hfs (And.intro hfi (And.intro hfac hsk)))
        clear hft hx hfs hfi hfac hsk
        by_cases he:er = 0
        · subst he
          --%E
          go_upto_region 9 with fail
          have KT:Kept w4 w4.drew:=(Kept.refl _).drew
          refine wp_region_held_drew (S:=fun w' => w'.cell? ⟨fb,1,none⟩ = some (.slice sa sk sc)) (by kernel_rfl) ((HR.out.2.2.1.kept KT).box.cell 1 _) (fun hHeld => ?_)
          generalize w4.drew = w5 at KT hHeld ⊢
          have HK5:=hid (And.intro (HK4.out.trans KT) (HR.out.2.2.1.kept KT))
          clear KT c1
          refine tk 0 hHeld ?_
          refine tk 1 hHeld ?_
          refine tk 2 hHeld ?_
          refine tk 3 hHeld ?_
          refine tk 4 hHeld ?_
          refine tk 5 hHeld ?_
          refine tk 6 hHeld ?_
          refine tk 7 hHeld ?_
          refine tk 8 hHeld ?_
          refine wpAnyH_done (by kernel_rfl) ?_ _
          go_wp2_with fail
          go_ret3
          rw [HQ.out,HR.out.2.2.2]
          exact ⟨HK5.out.1,.inr (.inr ⟨HO.out.symm,by have:=HLm.out; omega,ps,0,HR.out.1,HR.out.2.1,.inr ⟨rfl,fb,sa,sk,sc,Ss,rfl,HK5.out.2⟩⟩)⟩
        · --%F
          go_upto_region 8 with fail
          have KT:Kept w4 w4.drew:=(Kept.refl _).drew
          refine wp_region_held_drew (S:=fun w' => w'.cell? ⟨fb,1,none⟩ = some (.slice sa sk sc)) (by kernel_rfl) ((HR.out.2.2.1.kept KT).box.cell 1 _) (fun hHeld => ?_)
          generalize w4.drew = w5 at KT hHeld ⊢
          have HK5:=hid (HK4.out.trans KT)
          clear KT c1
          have HE:=hid he
          clear he
          refine tk 0 hHeld ?_
          refine tk 1 hHeld ?_
          refine tk 2 hHeld ?_
          refine tk 3 hHeld ?_
          refine tk 4 hHeld ?_
          refine tk 5 hHeld ?_
          refine tk 6 hHeld ?_
          refine tk 7 hHeld ?_
          refine tk 8 hHeld ?_
          refine wpAnyH_done (by kernel_rfl) ?_ _
          go_wp2_with fail
          go_ret3
          rw [HQ.out,HR.out.2.2.2]
          exact ⟨HK5.out,.inr (.inr ⟨HO.out.symm,by have:=HLm.out; omega,ps,er,HR.out.1,HR.out.2.1,.inl ⟨HE.out,rfl⟩⟩)⟩
end Bp
end Go.Proofs.YtdcfammglpebaaaGreat

namespace Go.Proofs.YtdcfammglpebaaaGreat
open Ba (det det_succ sm_mul sm_congr sg det_rows det_congr det_tp det_range det_pivots stg_bar last_prod lastP Fits cast)
namespace Bp
def cnt (x:Nat):List Nat→Bool
 | [] => false
 | y :: t => xor (decide (y < x)) (cnt x t)
def cntU (x:Nat):List Nat→Bool
 | [] => false
 | y :: t => xor (decide (x < y)) (cntU x t)
def inv:List Nat→Bool
 | [] => false
 | x :: t => xor (cnt x t) (inv t)
def sgb (b:Bool):Rat:=if b = true then -1 else 1
section
variable {n:Nat} {M:Nat→Nat→Int} {ps:List (Nat × Nat)}
end
end Bp
end Go.Proofs.YtdcfammglpebaaaGreat

namespace Go.Proofs.YtdcfammglpebaaaGreat
open Ba (stg lastP barQ bstep pivs leftR leftC wideZ wideM nz facGo facS)
namespace Bp
def aM:Nat→Nat→Int:=fun i j => if i = 0 then (if j = 0 then 2 else 1) else (if j = 0 then 1 else 3)
def aN:Nat→Nat→Int:=fun i j => if i = 0 then (if j = 0 then 1 else 2) else (if j = 0 then 2 else 4)
def aB:Nat→Int:=fun i => if i = 0 then 5 else 10
end Bp
end Go.Proofs.YtdcfammglpebaaaGreat

namespace Go.Proofs.YtdcfammglpebaaaGreat
open Sy
open Bm (mOk)
open Ba (stg lastP pivs wideZ wideM facS Fits det cast)
namespace Bp
def colC (c r:Nat) (cs:List CE):List CE:=(cs.filter fun x => x.col == (c:Int)).map fun x => ⟨(r:Int),x.val⟩
def l0:LE:=⟨none,0,[]⟩
def tC (L:List LE) (i k c:Nat):List CE:=((List.range i).flatMap fun r => colC c r (L.getD r l0).cs) ++ colC c i ((L.getD i l0).cs.take k)
def turnL (L:List LE) (n:Nat) (av:Nat→Option Addr × Nat):List LE:=(List.range n).map fun c => ⟨(av c).1,(av c).2,tC L n 0 c⟩
theorem mOk_row {L:List LE} (h:mOk L = true):∀ r,cOk L.length (-1) (L.getD r l0).cs = true:=by
 unfold mOk at h
 rw [Bool.and_eq_true,List.all_eq_true] at h
 intro r
 by_cases hr:r < L.length
 ·
  rw [List.getD_eq_getElem?_getD,List.getElem?_eq_getElem hr]
  exact h.2 _ (List.getElem_mem hr)
 ·
  rw [List.getD_eq_getElem?_getD,List.getElem?_eq_none (by omega)]
  rfl
end Bp
end Go.Proofs.YtdcfammglpebaaaGreat

/- The matrix behind stages, as a table; what the program's factoring tells (facS) step by step. A factor in memory: StsR, FacR; bareiss's last. (mk_mzi.py) bareiss's factor. A right side behind the stages; a list of whole numbers of one's own. slices.Backward of stages, gone through by whatever loop. What back reckons is the solution: pure. What back tells solves, and what it is at each column. slices.Clone of whole numbers; forward. (mk_mzm.py) forward. Solve, where back's contract is given. Pivots. Order. (mk_mzq.py) bareiss's odd. Det. -/
import Derived.Test.YtdcgdpbgnijnpaaGreatMzg
import Derived.Test.YtdcgdpbgnijnpaaGreatGar
import Derived.Test.YtdcgdpbgnijnpaaGreatGau
import Derived.Test.YtdcgdpbgnijnpaaGreatGas
import Derived.Test.YtdcgdpbgnijnpaaGreatGad
import Derived.Test.YtdcgdpbgnijnpaaGreatGaa
import Derived.Test.YtdcgdpbgnijnpaaGreatMzd
import Derived.Test.YtdcgdpbgnijnpaaGreatGaq
import Derived.Test.YtdcgdpbgnijnpaaGreatGat
namespace Go.Proofs.YtdcgdpbgnijnpaaGreat
open Go.RowKit
open V (RowL RowL.alloc RowL.lt RowL.cell RowL.fz RowL.kept)
open Sp (hid bestOf bestS thinP mP_thin okP_thin cost rowL colL)
open Ba (stg lastP pivs leftR leftC wideZ wideM nz facGo facS Fits leftR_iff leftC_iff stg_snoc stg_exact pivs_snoc)
namespace Bp
theorem cost_congr {n:Nat} {m m':Nat→Nat→Bool} (h:∀ i k,i < n→k < n→m i k = m' i k) {r c:Nat} (hr:r < n) (hc:c < n):cost n m r c = cost n m' r c:=by
 unfold cost
 have e1:rowL n m r = rowL n m' r:=List.filter_congr fun k hk => h r k hr (List.mem_range.1 hk)
 have e2:colL n m c = colL n m' c:=List.filter_congr fun k hk => h k c (List.mem_range.1 hk) hc
 rw [e1,e2]
theorem best_congr {n:Nat} {m m':Nat→Nat→Bool} (h:∀ i k,i < n→k < n→m i k = m' i k):bestOf n m = bestOf n m':=by
 have key:∀ {m m':Nat→Nat→Bool},(∀ i k,i < n→k < n→m i k = m' i k)→∀ p,bestOf n m = some p→bestOf n m' = some p:=by
  intro m m' h p hp
  have hb:=Sp.best_some.1 (show bestOf n m = some (p.1,p.2) from hp)
  have:Sp.IsBest n m' p.1 p.2:=by
   obtain ⟨h1,h2,h3,h4⟩:=hb
   refine ⟨h1,h2,by rw [← h p.1 p.2 h1 h2]; exact h3,fun i k hi hk hm => ?_⟩
   rw [← h i k hi hk] at hm
   have:=h4 i k hi hk hm
   rw [← cost_congr h h1 h2,← cost_congr h hi hk]
   exact this
  exact Sp.best_some.2 this
 cases e:bestOf n m with
 | some p => exact (key h p e).symm
 | none =>
  cases e2:bestOf n m' with
  | none => rfl
  | some p =>
   have:=key (fun i k hi hk => (h i k hi hk).symm) p e2
   rw [e] at this; cases this
def stF (n:Nat) (M:Nat→Nat→Int) (ps:List (Nat × Nat)):Nat→Nat→Int:=fun i k => if (i < n∧k < n)∧leftR ps i = true∧leftC ps k = true then stg M ps i k else 0
section
variable {n limbs:Nat} {M:Nat→Nat→Int} {ps:List (Nat × Nat)}
theorem stF_in {i k:Nat} (hi:i < n) (hk:k < n):stF n M ps i k = if leftR ps i = true∧leftC ps k = true then stg M ps i k else 0:=by
 unfold stF
 by_cases h:leftR ps i = true∧leftC ps k = true
 ·
  rw [if_pos h,if_pos ⟨⟨hi,hk⟩,h⟩]
 ·
  rw [if_neg h,if_neg (fun e => h e.2)]
theorem stF_nil {i k:Nat} (hi:i < n) (hk:k < n):stF n M [] i k = M i k:=by
 rw [stF_in hi hk,if_pos ⟨by unfold leftR; rfl,by unfold leftC; rfl⟩]
 rfl
theorem stF_at {i k:Nat} (hi:i < n) (hk:k < n) (h1:leftR ps i = true) (h2:leftC ps k = true):stF n M ps i k = stg M ps i k:=by rw [stF_in hi hk,if_pos ⟨h1,h2⟩]
theorem stF_wide:anyB (fun i => anyB (fun k => wideZ limbs (stF n M ps i k)) n) n = wideM n limbs (stg M ps) ps:=by
 rw [Bool.eq_iff_iff]
 unfold wideM
 simp only [anyB_ex,List.any_eq_true,List.mem_range,Bool.and_eq_true]
 constructor
 ·
  rintro ⟨i,hi,k,hk,e⟩
  rw [stF_in hi hk] at e
  split at e
  ·
   next h => exact ⟨i,hi,k,hk,h.1,h.2,e⟩
  ·
   rw [wide_0] at e; cases e
 ·
  rintro ⟨i,hi,k,hk,h1,h2,e⟩
  exact ⟨i,hi,k,hk,by rw [stF_at hi hk h1 h2]; exact e⟩
theorem stF_best (hn:n≤48):bestS (thinP n (nzF (stF n M ps)) n) = bestOf n (nz (stg M ps) ps):=by
 unfold bestS
 rw [if_pos (okP_thin hn),thinP_length]
 refine best_congr fun i k hi hk => ?_
 rw [mP_thin hi hk]
 unfold nzF nz
 rw [stF_in hi hk,Bool.eq_iff_iff]
 simp only [decide_eq_true_eq,Bool.and_eq_true]
 constructor
 ·
  intro h
  split at h
  ·
   next h1 => exact ⟨h1.1,h1.2,h⟩
  ·
   exact absurd rfl h
 ·
  rintro ⟨h1,h2,h3⟩
  rw [if_pos ⟨h1,h2⟩]
  exact h3
theorem stF_next (hf:Fits n M ps) {r c:Nat} (hr:r < n) (hc:c < n) (h1:leftR ps r = true) (h2:leftC ps c = true) (h3:stg M ps r c ≠ 0) (hb:∀ i k,i < n→k < n→(stF n M ps i k).natAbs < W32) (i:Nat) (hi:i < n) :
  BhN (stF n M ps r c) (lastP M ps) (if i < n∧i ≠ r then stF n M ps i c else 0) (fun j => if i = r then 0 else if j = c then 0 else stF n M ps i j) (fun j => if j = c then 0 else stF n M ps r j) (stF n M (ps ++ [(r,c)]) i):=by
 have hb2:∀ i k,(stF n M ps i k).natAbs < W32:=fun i k => by
  by_cases h:i < n∧k < n
  ·
   exact hb i k h.1 h.2
  ·
   unfold stF
   rw [if_neg (fun e => h e.1)]
   exact w32_pos
 refine ⟨hb2 r c,?_,fun j => ?_,fun j => ?_,Ba.last_ne hf.piv,fun j => ?_⟩
 ·
  split
  ·
   exact hb2 i c
  ·
   exact w32_pos
 ·
  split
  ·
   exact w32_pos
  ·
   split
   ·
    exact w32_pos
   ·
    exact hb2 i j
 ·
  split
  ·
   exact w32_pos
  ·
   exact hb2 r j
 ·
  have hlr:∀ i,leftR (ps ++ [(r,c)]) i = true ↔ leftR ps i = true∧i ≠ r:=fun i => by
   rw [leftR_iff,leftR_iff,List.map_append]
   simp [List.mem_append,not_or]
  have hlc:∀ k,leftC (ps ++ [(r,c)]) k = true ↔ leftC ps k = true∧k ≠ c:=fun k => by
   rw [leftC_iff,leftC_iff,List.map_append]
   simp [List.mem_append,not_or]
  by_cases hir:i = r
  ·
   subst hir
   have e1:stF n M (ps ++ [(i,c)]) i j = 0:=by
    unfold stF
    rw [if_neg]
    rintro ⟨_,h,_⟩
    exact ((hlr i).1 h).2 rfl
   rw [e1]
   simp
  ·
   by_cases hjc:j = c
   ·
    subst hjc
    have e1:stF n M (ps ++ [(r,j)]) i j = 0:=by
     unfold stF
     rw [if_neg]
     rintro ⟨_,_,h⟩
     exact ((hlc j).1 h).2 rfl
    rw [e1]
    simp
   ·
    simp only [if_neg hir,if_neg hjc,if_pos (show i < n∧i ≠ r from ⟨hi,hir⟩)]
    by_cases hj:j < n
    ·
     rw [stF_in hi hj,stF_in hi hj,stF_at hr hc h1 h2,stF_in hi hc,stF_in hr hj]
     by_cases hli:leftR ps i = true
     ·
      by_cases hlj:leftC ps j = true
      ·
       rw [if_pos ⟨(hlr i).2 ⟨hli,hir⟩,(hlc j).2 ⟨hlj,hjc⟩⟩,if_pos ⟨hli,hlj⟩,if_pos ⟨hli,h2⟩,if_pos ⟨h1,hlj⟩]
       have:=stg_exact hf.piv h3 i j
       rw [this,Int.mul_comm]
      ·
       rw [if_neg (fun e => hlj ((hlc j).1 e.2).1),if_neg (fun e => hlj e.2),if_neg (fun e => hlj e.2:¬ (leftR ps r = true∧leftC ps j = true))]
       simp
     ·
      rw [if_neg (fun e => hli ((hlr i).1 e.1).1),if_neg (fun e => hli e.1),if_neg (fun e => hli e.1:¬ (leftR ps i = true∧leftC ps c = true))]
      simp
    ·
     have e1:∀ ps i,stF n M ps i j = 0:=fun ps i => by unfold stF; rw [if_neg (fun e => hj e.1.2)]
     rw [e1,e1,e1]
     simp
theorem not_wide_32 (hl:limbs≤32) {z:Int} (h:wideZ limbs z = false):z.natAbs < W32:=by
 unfold wideZ at h
 rw [decide_eq_false_iff_not] at h
 have:4294967296 ^ limbs≤4294967296 ^ 32:=Nat.pow_le_pow_right (by decide) hl
 unfold W32
 omega
theorem stF_lim (hl:limbs≤32) (h:wideM n limbs (stg M ps) ps = false):∀ i k,i < n→k < n→(stF n M ps i k).natAbs < W32:=by
 intro i k hi hk
 rw [← stF_wide] at h
 have h1:wideZ limbs (stF n M ps i k) = false:=by
  cases e:wideZ limbs (stF n M ps i k) with
  | false => rfl
  | true =>
   have:anyB (fun i => anyB (fun k => wideZ limbs (stF n M ps i k)) n) n = true:=anyB_ex.2 ⟨i,hi,anyB_ex.2 ⟨k,hk,e⟩⟩
   rw [this] at h; cases h
 exact not_wide_32 hl h1
end
end Bp
end Go.Proofs.YtdcgdpbgnijnpaaGreat

namespace Go.Proofs.YtdcgdpbgnijnpaaGreat
open Go.RowKit
open V (RowL RowL.alloc RowL.lt RowL.cell RowL.fz RowL.kept)
open Sp (hid own_kept own_keptK)
open Ba (stg lastP pivs leftR leftC wideZ wideM nz facGo facS Fits leftR_iff leftC_iff stg_snoc stg_exact pivs_snoc)
open Bm (ZI ZI.kept)
open Sy (alloc_sz)
namespace Bp
structure StC where
 r:Nat
 c:Nat
 s1:Bool
 o1:Option Addr
 k1:Nat
 c1:Nat
 s2:Bool
 o2:Option Addr
 k2:Nat
 c2:Nat
 ba:Nat
 bd:Nat
def StC.cells (S:StC):List Value:=[.int .i64 (S.r:Int),.int .i64 (S.c:Int),.bool S.s1,.slice S.o1 S.k1 S.c1,.bool S.s2,.slice S.o2 S.k2 S.c2,.map (some S.ba),.map (some S.bd)]
structure StOk (B:Nat) (w:World) (n:Nat) (M:Nat→Nat→Int) (S:StC) (ps:List (Nat × Nat)) (r c:Nat):Prop where
 er:S.r = r
 ec:S.c = c
 zp:ZN B w S.s1 (.slice S.o1 S.k1 S.c1) (stg M ps r c)
 zq:ZN B w S.s2 (.slice S.o2 S.k2 S.c2) (lastP M ps)
 za:NumM B w S.ba n (fun j => if j = c then 0 else stF n M ps r j)
 zd:NumM B w S.bd n (fun i => if i < n∧i ≠ r then stF n M ps i c else 0)
structure StsR (B:Nat) (w:World) (n:Nat) (M:Nat→Nat→Int) (v:Value) (Ss:List StC) (ps:List (Nat × Nat)):Prop where
 len:Ss.length = ps.length
 own:w.ownsRow B 87 8 v Ss.length (Ss.flatMap StC.cells)
 st:∀ j (hj:j < Ss.length) (hj':j < ps.length),StOk B w n M Ss[j] (ps.take j) ps[j].1 ps[j].2
structure FacR (B:Nat) (w:World) (fb n limbs:Nat) (sa:Option Addr) (sk sc:Nat) (Ss:List StC) (M:Nat→Nat→Int) (ps:List (Nat × Nat)):Prop where
 box:RowL 67 w fb [.int .i64 (limbs:Int),.slice sa sk sc]
 lies:B≤fb
 sts:StsR B w n M (.slice sa sk sc) Ss ps
section
variable {T:Nat→Prop} {B n limbs fb:Nat} {w w':World} {M:Nat→Nat→Int} {v:Value} {S:StC} {Ss:List StC} {ps:List (Nat × Nat)} {sa:Option Addr} {sk sc r c:Nat}
theorem StOk.kx (h:StOk B w n M S ps r c) (k:KX T w w') (h1:Free 40 T w) (ha:¬ T S.ba) (hd:¬ T S.bd):StOk B w' n M S ps r c :=
 ⟨h.er,h.ec,h.zp.kx k h1,h.zq.kx k h1,h.za.kx k h1 ha,h.zd.kx k h1 hd⟩
theorem own_free {e:TypeId} {sz m:Nat} {xs:List Value} (h:w.ownsRow B e sz v m xs) (k:KX T w w') (hT:Free e T w):w'.ownsRow B e sz v m xs:=own_kept h fun b hb => by
 refine k.block b (World.ownsRow.lt h b hb).2 fun ht => ?_
 rcases h.2 with ⟨rfl,_⟩ | ⟨g,_,_,rfl,_,hg2,_⟩
 ·
  cases hb
 ·
  cases hb
  exact hT g ht _ _ hg2
theorem StsR.kx (h:StsR B w n M v Ss ps) (k:KX T w w') (h1:Free 40 T w) (h2:Free 87 T w) (hs:∀ S ∈ Ss,¬ T S.ba∧¬ T S.bd):StsR B w' n M v Ss ps :=
 ⟨h.len,own_free h.own k h2,fun j hj hj' => (h.st j hj hj').kx k h1 (hs _ (List.getElem_mem hj)).1 (hs _ (List.getElem_mem hj)).2⟩
theorem FacR.kx (h:FacR B w fb n limbs sa sk sc Ss M ps) (k:KX T w w') (h1:Free 40 T w) (h2:Free 87 T w) (h3:Free 67 T w) (hs:∀ S ∈ Ss,¬ T S.ba∧¬ T S.bd):FacR B w' fb n limbs sa sk sc Ss M ps :=
 ⟨RowL_kx h.box k h3,h.lies,h.sts.kx k h1 h2 hs⟩
theorem FacR.kept (h:FacR B w fb n limbs sa sk sc Ss M ps) (k:Kept w w'):FacR B w' fb n limbs sa sk sc Ss M ps :=
 h.kx (T:=fun _ => False) (KX.of k) (fun _ h => h.elim) (fun _ h => h.elim) (fun _ h => h.elim) (fun _ _ => ⟨fun h => h,fun h => h⟩)
theorem FacR.len (h:FacR B w fb n limbs sa sk sc Ss M ps):sk = ps.length:=by
 rcases h.sts.own.2 with ⟨e,h0⟩ | ⟨g,_,_,e,_⟩
 ·
  injection e with _ e
  rw [e,← h.sts.len,h0]
 ·
  injection e with _ e
  rw [e,h.sts.len]
theorem scells_at:∀ (Ss:List StC) (j:Nat) (hj:j < Ss.length) (i:Nat) (u:Value),Ss[j].cells[i]? = some u→(Ss.flatMap StC.cells)[j * 8 + i]? = some u:=by
 intro Ss
 induction Ss with
 | nil => intro j hj; exact absurd hj (Nat.not_lt_zero _)
 | cons S t ih =>
  intro j hj i u hu
  rw [List.flatMap_cons]
  cases j with
  | zero =>
   have hi:i < S.cells.length:=(List.getElem?_eq_some_iff.1 hu).1
   rw [Nat.zero_mul,Nat.zero_add,List.getElem?_append_left hi]
   exact hu
  | succ j =>
   have e8:S.cells.length = 8:=rfl
   rw [List.getElem?_append_right (by rw [e8]; omega),e8,show (j + 1) * 8 + i - 8 = j * 8 + i by omega]
   exact ih j (by simpa using hj) i u hu
theorem FacR.at (h:FacR B w fb n limbs sa sk sc Ss M ps) {j:Nat} (hj:j < Ss.length):∃ g,sa = some ⟨g,0,none⟩∧g < w.heap.size∧B≤g∧∀ i u,Ss[j].cells[i]? = some u→w.cell? ⟨g,j * 8 + i,none⟩ = some u:=by
 rcases h.sts.own.2 with ⟨e,h0⟩ | ⟨g,cap,cur,e,hg1,hg2,hg3,hg4,hg5,hg6⟩
 ·
  omega
 ·
  injection e with e1 e2 e3
  refine ⟨g,e1,(Array.getElem?_eq_some_iff.1 hg2).1,hg1,fun i u hu => ?_⟩
  have h1:=scells_at Ss j hj i u hu
  have hi:j * 8 + i < Ss.length * 8:=by
   have h2:=(List.getElem?_eq_some_iff.1 hu).1
   have e8:Ss[j].cells.length = 8:=rfl
   rw [e8] at h2
   omega
  rw [← hg6,List.getElem?_take_of_lt hi,Array.getElem?_toList] at h1
  simp only [World.cell?,hg2]
  exact h1
end
set_option maxRecDepth 100000 in
set_option maxHeartbeats 8000000 in
theorem last_any (B fb n limbs:Nat) (sa:Option Addr) (sk sc:Nat) (Ss:List StC) (M:Nat→Nat→Int) (ps:List (Nat × Nat)) (w:World) (h:FacR B w fb n limbs sa sk sc Ss M ps) (hne:lastP M ps ≠ 0) (hk:sk≤1000) :
  Calls Tryz.prog 36 #[.pointer (some ⟨fb,0,none⟩)] w (TellsZ w (lastP M ps)):=by
 have hl:=h.len
 have HH:=hid (fun (W:World) (K:Kept w W) => h.kept K)
 by_cases h0:sk = 0
 ·
  have hnil:ps = []:=List.eq_nil_of_length_eq_zero (by omega)
  subst hnil
  subst h0
  have hof:=hid (fun (W:World) => of_any 1 W (by omega) (by omega))
  have e1:lastP M [] = 1:=rfl
  rw [e1]
  clear h hl hne e1 hk
  have br1:=RowL.alloc 37 w [.bool false,.slice none 0 0]
  have bk1:=(Kept.refl w).alloc (.cells #[.bool false,.slice none 0 0] 37)
  have bs1:=alloc_sz w (.cells #[.bool false,.slice none 0 0] 37)
  have sN:((w.alloc (.cells #[.bool false,.slice none 0 0] 37))).heap.size = w.heap.size + 1:=by rw [bs1]
  clear bs1
  go_enter Tryz.func36,Tryz.ntmps36
  go_upto_region 1 with fail
  generalize w.alloc (.cells #[.bool false,.slice none 0 0] 37) = W1 at bk1 br1 sN ⊢
  obtain ⟨p1,hp1⟩:∃ p,p = w.heap.size:=⟨_,rfl⟩
  rw [← hp1] at br1 ⊢
  have HV:=hid (show ∀ V,Kept W1 V→(RowL 37 V p1 [.bool false,.slice none 0 0])∧Kept w V from fun V K => ⟨br1.kept K,bk1.trans K⟩)
  have HVs:=hid (show (p1 = w.heap.size)∧W1.heap.size = w.heap.size + 1 from ⟨hp1,sN⟩)
  clear bk1 br1 hp1 sN
  have c0:=(HH.out _ (HV.out _ (Kept.refl W1)).2).box.cell 1 _
  --%A
  go_wp2_with fail
  refine (hof.out W1).mono ?_
  rintro e w1 ⟨hk,s,ro,r,rc,l,rfl,hN,hR,hI⟩
  have d0:=(HV.out _ hk).1.cell 0 _
  have d1:=(HV.out _ hk).1.cell 1 _
  have f0:=(HV.out _ hk).1.fz 0
  have f1:=(HV.out _ hk).1.fz 1
  have HZ:=hid (And.intro hk (show ZN W1.heap.size w1 s (.slice ro r rc) 1 from ⟨l,hN,hR,hI⟩))
  clear hk hN hR hI c0
  go_wp2_with fail
  refine bodyPost_ret (v:=.agg #[.bool s,.slice ro r rc]) (by simp [results,Tryz.results36,go_sem,d0,d1]) rfl ⟨?_,s,ro,r,rc,rfl,?_⟩
  ·
   have hs:=HVs.out
   exact ((HV.out _ HZ.out.1).2.setCell (by simp; omega) _).setCell (by simp; omega) _
  ·
   have hs:=HVs.out
   exact ((HZ.out.2.other (by simp; omega) _).other (by simp; omega) _).mono (by omega)
 ·
  have hsl:=h.sts.len
  obtain ⟨j,hj⟩:∃ j,sk = j + 1:=⟨sk - 1,by omega⟩
  subst hj
  have hjS:j < Ss.length:=by omega
  have hjP:j < ps.length:=by omega
  obtain ⟨g,rfl,hg,hBg,hc⟩:=h.at hjS
  have hst:=h.sts.st j hjS hjP
  have hps:ps = ps.take j ++ [(ps[j].1,ps[j].2)]:=by
   have:=List.take_append_getElem (l:=ps) hjP
   rw [show ((ps[j].1,ps[j].2):Nat × Nat) = ps[j] from rfl,this,List.take_of_length_le (by omega)]
  have he:lastP M ps = stg M (ps.take j) ps[j].1 ps[j].2:=by
   have:=(stg_snoc M (ps.take j) ps[j].1 ps[j].2).2
   rw [← hps] at this
   exact this
  rw [he] at hne ⊢
  obtain ⟨z,hz⟩:∃ z,z = stg M (ps.take j) ps[j].1 ps[j].2:=⟨_,rfl⟩
  have hzp:=hst.zp
  rw [← hz] at hne hzp ⊢
  have c2:=hc 2 _ rfl
  have c3:=hc 3 _ rfl
  obtain ⟨s1,hs1⟩:∃ x,x = Ss[j].s1:=⟨_,rfl⟩
  obtain ⟨o1,ho1⟩:∃ x,x = Ss[j].o1:=⟨_,rfl⟩
  obtain ⟨k1,hk1⟩:∃ x,x = Ss[j].k1:=⟨_,rfl⟩
  obtain ⟨c1,hc1⟩:∃ x,x = Ss[j].c1:=⟨_,rfl⟩
  rw [← hs1] at c2 hzp
  rw [← ho1,← hk1,← hc1] at c3 hzp
  have HC:=hid (fun (W:World) (K:Kept w W) => And.intro ((K.cell (p:=⟨g,j * 8 + 2,none⟩) hg).trans c2) (And.intro ((K.cell (p:=⟨g,j * 8 + 3,none⟩) hg).trans c3) (And.intro (hzp.kept K) ((HH.out W K).box.cell 1 _ rfl))))
  have HN:=hid hne
  have hj0:(0:Int)≤(j:Int):=by omega
  have hjj:(j:Int) < (j:Int) + 1:=by omega
  have hw1:IntKind.i64.wrap (j:Int) = (j:Int):=by rw [IntKind.wrap_i64]; omega
  have hjm:j < j + 1:=by omega
  have hsub:(j:Int) + 1 - 1 = (j:Int):=by omega
  clear h hl hst hps he hz hzp c2 c3 hs1 ho1 hk1 hc1 hc hsl hjS hjP hne h0 hg hBg
  have br1:=RowL.alloc 37 w [.bool false,.slice none 0 0]
  have bk1:=(Kept.refl w).alloc (.cells #[.bool false,.slice none 0 0] 37)
  have bs1:=alloc_sz w (.cells #[.bool false,.slice none 0 0] 37)
  have sN:((w.alloc (.cells #[.bool false,.slice none 0 0] 37))).heap.size = w.heap.size + 1:=by rw [bs1]
  clear bs1
  go_enter Tryz.func36,Tryz.ntmps36
  go_upto_region 1 with fail
  generalize w.alloc (.cells #[.bool false,.slice none 0 0] 37) = W1 at bk1 br1 sN ⊢
  obtain ⟨p1,hp1⟩:∃ p,p = w.heap.size:=⟨_,rfl⟩
  rw [← hp1] at br1 ⊢
  have HV:=hid (show ∀ V,Kept W1 V→(RowL 37 V p1 [.bool false,.slice none 0 0])∧Kept w V from fun V K => ⟨br1.kept K,bk1.trans K⟩)
  have HVs:=hid (show (p1 = w.heap.size)∧W1.heap.size = w.heap.size + 1 from ⟨hp1,sN⟩)
  clear bk1 br1 hp1 sN
  have c0:=(HC.out _ (HV.out _ (Kept.refl W1)).2).2.2.2
  --%B
  go_upto_region 3 with fail
  clear c0
  have KT:Kept W1 W1.drew:=(Kept.refl _).drew
  have sS:=hid (fun (V:World) (K:Kept w V) => And.intro (HC.out _ K).2.2.2 (And.intro (HC.out _ K).1 (HC.out _ K).2.1))
  refine wp_region_held_drew (S:=fun w' => w'.cell? ⟨fb,1,none⟩ = some (.slice (some ⟨g,0,none⟩) (j + 1) sc)∧w'.cell? ⟨g,j * 8 + 2,none⟩ = some (.bool s1)∧w'.cell? ⟨g,j * 8 + 3,none⟩ = some (.slice o1 k1 c1)) (by kernel_rfl) (sS.out _ (HV.out _ KT).2) (fun hHeld => ?_)
  generalize W1.drew = Wd at KT hHeld ⊢
  refine wk 0 hHeld ?_
  refine wk 1 hHeld ?_
  refine wk 2 hHeld ?_
  refine wk 3 hHeld ?_
  refine wk 4 hHeld ?_
  refine wk 5 hHeld ?_
  refine wk 6 hHeld ?_
  refine wk 7 hHeld ?_
  refine wk 8 hHeld ?_
  refine wk 9 hHeld ?_
  refine wk 10 hHeld ?_
  refine wk 11 hHeld ?_
  refine wk 12 hHeld ?_
  refine wpAnyH_ready (rs:=[13]) (by kernel_rfl) (by simp) ?_
  refine AllReadyH.cons rfl (fun K hK => ?_) AllReadyH.nil
  go_simp
  refine (dupl_any s1 o1 k1 c1 z Wd (HC.out _ (HV.out _ KT).2).2.2.1.zi HN.out).mono ?_
  rintro e w1 ⟨hu,t1,t2,t3,t4,rfl,hR⟩
  have K2:=KT.trans hu
  refine hK.out _ _ (sS.out _ (HV.out _ K2).2) (fun hHeld => ?_)
  clear hK K
  have d0:=(HV.out _ K2).1.cell 0 _
  have d1:=(HV.out _ K2).1.cell 1 _
  have f0:=(HV.out _ K2).1.fz 0
  have f1:=(HV.out _ K2).1.fz 1
  have HZ:=hid (And.intro K2 (And.intro hR (show W1.heap.size≤Wd.heap.size from KT.size)))
  clear hR hu KT K2
  refine wpAnyH_ready (rs:=[14]) (by kernel_rfl) (by simp) ?_
  refine AllReadyH.cons rfl (fun K hK => ?_) AllReadyH.nil
  go_simp
  have hp:w.heap.size≤p1:=by have:=HVs.out; omega
  refine hK.out _ _ (sS.out _ (((HV.out _ HZ.out.1).2.setCell (p:=⟨p1,0,none⟩) hp _).setCell (p:=⟨p1,1,none⟩) hp _)) (fun hHeld => ?_)
  clear hK K
  have HP:=hid hp
  clear hp
  refine wpAnyH_done (by kernel_rfl) ?_ _
  go_wp2_with fail
  refine bodyPost_ret (v:=.agg #[.bool t1,.slice t2 t3 t4]) (by simp [results,Tryz.results36,go_sem,d0,d1]) rfl ⟨?_,t1,t2,t3,t4,rfl,?_⟩
  ·
   exact ((HV.out _ HZ.out.1).2.setCell HP.out _).setCell HP.out _
  ·
   have hs:=HVs.out
   have hs2:=HZ.out.2.2
   exact ((HZ.out.2.1.other (by simp; omega) _).other (by simp; omega) _).mono (by omega)
end Bp
end Go.Proofs.YtdcgdpbgnijnpaaGreat

namespace Go.Proofs.YtdcgdpbgnijnpaaGreat
open Go.RowKit
open V (RowL RowL.alloc RowL.lt RowL.cell RowL.fz RowL.kept)
open Sp (hid own_kept own_keptK own_row bestOf bestS rO cO PatR)
open Ba (stg lastP pivs leftR leftC wideZ wideM nz facGo facS Fits leftR_iff leftC_iff stg_snoc stg_exact pivs_snoc)
open Bm (ZI ZI.kept)
open Sy (alloc_sz)
open X (zk zr zl zd region_z)
namespace Bp
theorem und_stages:Tryz.prog.underlying 65 = some (.slice 87):=by kernel_rfl
theorem info_stage:(Tryz.prog.info? 87).map (fun i => (i.zero,i.size,i.bytes)) = some (some (.agg #[.int .i64 0,.int .i64 0,.bool false,.slice none 0 0,.bool false,.slice none 0 0,.map none,.map none]),8,96):=by kernel_rfl
def Sep (n:Nat) (ms:Nat→Option Nat) (Ss:List StC):Prop:=∀ i,i < n→∀ S ∈ Ss,ms i ≠ some S.ba∧ms i ≠ some S.bd
section
variable {B n limbs fb bt:Nat} {w w' W W4:World} {M:Nat→Nat→Int} {S:StC} {Ss:List StC} {ps:List (Nat × Nat)} {sa ao:Option Addr} {sk sc r c g4 cap4:Nat} {ms:Nat→Option Nat} {F:Nat→Nat→Int}
theorem StsR.mem (h:StsR B w n M (.slice sa sk sc) Ss ps):∀ S ∈ Ss,∃ g d,NumM B w S.ba n g∧NumM B w S.bd n d:=by
 intro S hS
 obtain ⟨j,hj,rfl⟩:=List.getElem_of_mem hS
 have:=h.st j hj (by rw [← h.len]; exact hj)
 exact ⟨_,_,this.za,this.zd⟩
theorem FacR.tab (h:FacR B w fb n limbs sa sk sc Ss M ps) (ht:TabR B w ao bt n ms F) (k:KX (tabT bt n ms) w w') (hs:Sep n ms Ss):FacR B w' fb n limbs sa sk sc Ss M ps:=by
 refine h.kx k (ht.free (by decide)) (ht.free (by decide)) (ht.free (by decide)) fun S hS => ?_
 obtain ⟨g,d,h1,h2⟩:=h.sts.mem S hS
 constructor
 ·
  rintro (⟨h0,e⟩ | ⟨i,hi,e⟩)
  ·
   exact ht.far h0 h1 e
  ·
   exact (hs i hi S hS).1 e
 ·
  rintro (⟨h0,e⟩ | ⟨i,hi,e⟩)
  ·
   exact ht.far h0 h2 e
  ·
   exact (hs i hi S hS).2 e
theorem FacR.own_lt (h:FacR B w fb n limbs sa sk sc Ss M ps):∀ b,(Value.slice sa sk sc).ownBlock = some b→B≤b∧b < w.heap.size:=fun b hb => World.ownsRow.lt h.sts.own b hb
theorem FacR.push (h:FacR B W fb n limbs sa sk sc Ss M ps) (hS:StOk B W n M S ps r c) (ht:TabR B W ao bt n ms F) {tmp:Obj} (own4:W4.ownsRow B 87 8 (.slice (some ⟨g4,0,none⟩) (Ss.length + 1) cap4) (Ss.length + 1) (Ss.flatMap StC.cells ++ S.cells)) (hg4:(W.alloc tmp).grownBy W4 (Value.slice sa sk sc).ownBlock) :
  FacR B (W4.setCell ⟨fb,1,none⟩ (.slice (some ⟨g4,0,none⟩) (Ss.length + 1) cap4)) fb n limbs (some ⟨g4,0,none⟩) (Ss.length + 1) cap4 (Ss ++ [S]) M (ps ++ [(r,c)])∧TabR B (W4.setCell ⟨fb,1,none⟩ (.slice (some ⟨g4,0,none⟩) (Ss.length + 1) cap4)) ao bt n ms F∧KX (fun b => B≤b) W (W4.setCell ⟨fb,1,none⟩ (.slice (some ⟨g4,0,none⟩) (Ss.length + 1) cap4))∧(∀ p xs,RowL 87 W p xs→(Value.slice sa sk sc).ownBlock ≠ some p→RowL 87 (W4.setCell ⟨fb,1,none⟩ (.slice (some ⟨g4,0,none⟩) (Ss.length + 1) cap4)) p xs)∧W4.cell? ⟨fb,1,none⟩ = some (.slice sa sk sc)∧W4.frozen? ⟨fb,1,none⟩ = false∧KX (fun b => B≤b) W W4:=by
 obtain ⟨T1,hT1⟩:∃ T:Nat→Prop,T = fun b => (Value.slice sa sk sc).ownBlock = some b:=⟨_,rfl⟩
 obtain ⟨T2,hT2⟩:∃ T:Nat→Prop,T = fun b => b = fb:=⟨_,rfl⟩
 have k0:=(Kept.refl W).alloc tmp
 have h:=h.kept k0
 have hS:=hS.kx (T:=fun _ => False) (KX.of k0) (fun _ h => h.elim) (fun h => h) (fun h => h)
 have ht:=ht.kept k0
 generalize hWa:W.alloc tmp = Wa at k0 h hS ht hg4
 have k1:KX T1 Wa W4:=by rw [hT1]; exact ⟨hg4.os,hg4.tape,hg4.output,hg4.size,fun q hq hne => hg4.block q hq (fun e => hne e.symm)⟩
 have hkind:∀ b,T1 b→∃ cur,Wa.heap[b]? = some (.cells cur 87 (0,0)):=by
  rw [hT1]
  intro b hb
  rcases h.sts.own.2 with ⟨e,_⟩ | ⟨g,_,cur,e,_,hg2,_⟩
  ·
   injection e with e
   subst e
   cases hb
  ·
   injection e with e
   subst e
   cases hb
   exact ⟨cur,hg2⟩
 have hf1:∀ t,t ≠ 87→Free t T1 Wa:=fun t htt b hb cur fr e => by
  obtain ⟨cur',h1⟩:=hkind b hb
  rw [h1] at e
  injection e with e
  injection e with _ e2
  exact htt e2.symm
 have hn1:∀ b n' g,NumM B Wa b n' g→¬ T1 b:=fun b n' g hm hb => by
  obtain ⟨cur',h1⟩:=hkind b hb
  obtain ⟨_,es,clock,h5,_⟩:=hm
  rw [h5] at h1; cases h1
 have hbt1:0 < n→¬ T1 bt:=fun h0 hb => by
  obtain ⟨cur',h1⟩:=hkind bt hb
  obtain ⟨_,_,N,f,_,⟨c',h4,_⟩,_⟩:=ht.lies h0
  rw [h4] at h1
  injection h1 with e
  injection e with _ e2
  exact absurd e2 (by decide)
 -- behind the append
 have hbox4:=RowL_kx h.box k1 (hf1 _ (by decide))
 have hS4:=hS.kx k1 (hf1 _ (by decide)) (hn1 _ _ _ hS.za) (hn1 _ _ _ hS.zd)
 have hst4:∀ j (hj:j < Ss.length) (hj':j < ps.length),StOk B W4 n M Ss[j] (ps.take j) ps[j].1 ps[j].2:=fun j hj hj' => by
  have:=h.sts.st j hj hj'
  exact this.kx k1 (hf1 _ (by decide)) (hn1 _ _ _ this.za) (hn1 _ _ _ this.zd)
 have ht4:=ht.kx k1 (hf1 _ (by decide)) hbt1 (fun i b hi e => hn1 b _ _ (ht.map hi e))
 have k2:KX T2 W4 (W4.setCell ⟨fb,1,none⟩ (.slice (some ⟨g4,0,none⟩) (Ss.length + 1) cap4)):=by rw [hT2]; exact KX.setCell (T:=fun b => b = fb) (KX.refl W4) (p:=⟨fb,1,none⟩) (.inl rfl) _
 have hf2:∀ t,t ≠ 67→Free t T2 W4:=by
  rw [hT2]
  intro t htt b hb cur fr e
  subst hb
  obtain ⟨c',h4,_⟩:=hbox4
  rw [h4] at e
  injection e with e
  injection e with _ e2
  exact htt e2.symm
 have hn2:∀ b n' g,NumM B W4 b n' g→¬ T2 b:=by
  rw [hT2]
  intro b n' g hm hb
  subst hb
  obtain ⟨c',h4,_⟩:=hbox4
  obtain ⟨_,es,clock,h5,_⟩:=hm
  rw [h5] at h4; cases h4
 have hbt2:0 < n→¬ T2 bt:=by
  rw [hT2]
  intro h0 hb
  subst hb
  obtain ⟨_,_,N,f,_,⟨c',h4,_⟩,_⟩:=ht4.lies h0
  obtain ⟨c2,h6,_⟩:=hbox4
  rw [h4] at h6
  injection h6 with e
  injection e with _ e2
  exact absurd e2 (by decide)
 have hB1:KX (fun b => B≤b) W W4:=(KX.of k0).then k1 (fun i hi => .inl (by rw [hT1] at hi; exact (h.own_lt i hi).1))
 refine ⟨⟨hbox4.set 1 _,h.lies,⟨by rw [List.length_append,List.length_append,h.sts.len]; rfl,?_,fun j hj hj' => ?_⟩⟩,ht4.kx k2 (hf2 _ (by decide)) hbt2 (fun i b hi e => hn2 b _ _ (ht4.map hi e)),hB1.then k2 (fun i hi => .inl (by rw [hT2] at hi; rw [hi]; exact h.lies)),fun p xs hp hne => ?_,hbox4.cell 1 _,hbox4.fz 1,hB1⟩
 ·
  rw [List.length_append,List.flatMap_append,List.flatMap_cons,List.flatMap_nil,List.append_nil]
  exact own_free own4 k2 (hf2 _ (by decide))
 ·
  by_cases e:j < Ss.length
  ·
   have e2:j < ps.length:=by rw [← h.sts.len]; exact e
   rw [List.getElem_append_left e,List.getElem_append_left e2,List.take_append_of_le_length (by omega)]
   have:=hst4 j e e2
   exact this.kx k2 (hf2 _ (by decide)) (hn2 _ _ _ this.za) (hn2 _ _ _ this.zd)
  ·
   have hl:=h.sts.len
   have hjl:j = Ss.length:=by simp at hj; omega
   subst hjl
   rw [List.getElem_append_right (Nat.le_refl _)]
   simp only [Nat.sub_self,List.getElem_cons_zero]
   have e3:(ps ++ [(r,c)])[Ss.length]'hj' = (r,c):=by
    rw [List.getElem_append_right (by omega)]
    simp [hl]
   rw [e3,List.take_append_of_le_length (by omega),List.take_of_length_le (by omega)]
   exact hS4.kx k2 (hf2 _ (by decide)) (hn2 _ _ _ hS4.za) (hn2 _ _ _ hS4.zd)
 ·
  have hp1:RowL 87 Wa p xs:=hp.kept k0
  have hp4:RowL 87 W4 p xs:=World.rowIs.of_block hp1 (k1.block p hp1.lt (by rw [hT1]; exact hne))
  exact RowL_kx hp4 k2 (hf2 _ (by decide))
end
def FctIs (B:Nat) (w:World) (fb n limbs:Nat) (M:Nat→Nat→Int) (e:Ending) (w':World):Prop :=
 KX (fun b => B≤b) w w'∧∃ (er:Int) (ps:List (Nat × Nat)) (sa:Option Addr) (sk sc:Nat) (Ss:List StC),e = .returned (.int .i64 er)∧facS n limbs M = (ps,er)∧Fits n M ps∧FacR B w' fb n limbs sa sk sc Ss M ps
structure FctS (B:Nat) (w wr:World) (fb n limbs k:Nat) (M:Nat→Nat→Int) (ao:Option Addr) (bt:Nat) (sa:Option Addr) (sk sc:Nat) (Ss:List StC) (ps:List (Nat × Nat)) (ms:Nat→Option Nat):Prop where
 kx:KX (fun b => B≤b) w wr
 len:ps.length = k
 go:facGo n limbs M (n - k) ps = facS n limbs M
 fits:Fits n M ps
 wide:wideM n limbs (stg M ps) ps = false
 fac:FacR B wr fb n limbs sa sk sc Ss M ps
 tab:TabR B wr ao bt n ms (stF n M ps)
 some:∀ i,i < n→∃ b,ms i = some b
 sep:Sep n ms Ss
set_option maxRecDepth 100000 in
set_option maxHeartbeats 40000000 in
theorem factor_any (B fb n limbs bt:Nat) (ms:Nat→Option Nat) (M:Nat→Nat→Int) (ao:Option Addr) (cap:Nat) (w:World) (h:FacR B w fb n limbs none 0 0 [] M []) (ht:TabR B w ao bt n ms (stF n M [])) (hm:∀ i,i < n→∃ b,ms i = some b) (hn:n≤48) (hl:limbs≤32) (hB:B≤w.heap.size) :
  Calls Tryz.prog 20 #[.pointer (some ⟨fb,0,none⟩),.slice ao n cap] w (FctIs B w fb n limbs M):=by
 obtain ⟨Q,hQ⟩:∃ Q,Q = FctIs B w fb n limbs M:=⟨_,rfl⟩
 rw [← hQ]
 have HQ:=hid hQ
 clear hQ
 have HH:=hid (And.intro h (And.intro ht (And.intro hm hB)))
 have c0:=h.box.cell 0 _
 have hw:=widet_any B n bt ms (stF n M []) ao cap limbs w ht hm (by omega)
 rw [stF_wide] at hw
 clear h ht hm hB
 obtain ⟨i0,hi,hz0,hz1,hz2⟩:=info_parts info_stage
 go_enter Tryz.func20,Tryz.ntmps20
 --%A
 go_wp2_with fail
 refine hw.mono ?_
 rintro e w1 ⟨hk,rfl⟩
 have HK:=hid hk
 clear hk hw c0
 cases hwd:wideM n limbs (stg M []) [] with
 | true =>
  have HW:=hid hwd
  clear hwd
  go_wp2_with fail
  show Q (.returned (.int .i64 13)) w1
  rw [HQ.out]
  refine ⟨KX.of HK.out,13,[],none,0,0,[],rfl,?_,Fits.nil n M,HH.out.1.kept HK.out⟩
  unfold facS
  cases n with
  | zero => unfold facGo; rw [if_pos HW.out]
  | succ m => unfold facGo; rw [if_pos HW.out]
 | false =>
  have HW:=hid hwd
  clear hwd
  --%B
  go_wp2_with fail
  go_loopw [18] (fun v18 wr => ∃ (k:Nat) (sa:Option Addr) (sk sc:Nat) (Ss:List StC) (ps:List (Nat × Nat)) (ms':Nat→Option Nat),k≤n∧v18 = .int .i64 (k:Int)∧Hid (FctS B w wr fb n limbs k M ao bt sa sk sc Ss ps ms')) (fun v18 _ => n - (intOf v18).toNat)
  case atStart =>
   refine ⟨0,none,0,0,[],[],ms,Nat.zero_le _,rfl,KX.of HK.out,rfl,rfl,Fits.nil n M,HW.out,HH.out.1.kept HK.out,HH.out.2.1.kept HK.out,HH.out.2.2.1,fun _ _ S hS => by cases hS⟩
  case round =>
   obtain ⟨k,sa,sk,sc,Ss,ps,ms',hkn,rfl,H⟩:=hrel
   generalize wr = w2 at H ⊢
   by_cases hlt:k < n
   ·
    have hltz:(k:Int) < (n:Int):=by omega
    have hpt:=pattern_any B n bt ms' (stF n M ps) ao cap w2 H.out.tab (by omega)
    have HL:=hid hlt
    --%C
    go_wp2_with fail
    refine hpt.mono ?_
    rintro e w3 ⟨hk,v,rfl,hP⟩
    have hsh:=hP
    obtain ⟨pa,pc,rfl,_⟩:=hsh
    have hpl:=thinP_length n (nzF (stF n M ps)) n
    have hbs:=stF_best (n:=n) (M:=M) (ps:=ps) hn
    obtain ⟨P,hPd⟩:∃ P,P = Sp.thinP n (nzF (stF n M ps)) n:=⟨_,rfl⟩
    rw [← hPd] at hP hbs hpl ⊢
    have hPr:∀ l ∈ P,l.length≤1000000:=by
     intro l hl
     rw [hPd] at hl
     unfold Sp.thinP at hl
     obtain ⟨i,_,rfl⟩:=List.mem_map.1 hl
     have:=Sp.thinR_len (nzF (stF n M ps)) i n
     omega
    rw [hpl] at hP ⊢
    have hbe:=Sp.sp_best pa n pc P w3 hP (by omega) hPr
    rw [hbs] at hbe
    have H3:=hid (And.intro hk (And.intro (H.out.fac.kept hk) (And.intro (H.out.tab.kept hk) (H.out.kx.trans (KX.of hk)))))
    have HL:=hid hlt
    clear hP hPr hpl hPd hbs hk hpt
    obtain ⟨o,ho⟩:∃ o,o = bestOf n (nz (stg M ps) ps):=⟨_,rfl⟩
    rw [← ho] at hbe
    generalize Sp.chkP P = ck at hbe
    cases o with
    | none =>
     have HO:=hid ho
     clear ho
     have hbe:Calls Tryz.prog 48 #[.slice pa n pc] w3 fun e w' => Kept w3 w'∧e = .returned (.tuple #[.int .i64 (rO none:Int),.int .i64 (cO none:Int),.bool false,.int .i64 ck]):=hbe
     --%D
     go_wp2_with fail
     refine hbe.mono ?_
     rintro e w4 ⟨hk,rfl⟩
     have HK:=hid hk
     clear hk hbe
     go_wp2_with fail
     show Q (.returned (.int .i64 140)) w4
     rw [HQ.out]
     refine ⟨H3.out.2.2.2.trans (KX.of HK.out),140,ps,sa,sk,sc,Ss,rfl,?_,H.out.fits,H3.out.2.1.kept HK.out⟩
     have:=H.out.go
     obtain ⟨m,hm⟩:∃ m,n - k = m + 1:=⟨n - k - 1,by have:=HL.out; omega⟩
     rw [hm] at this
     unfold facGo at this
     rw [if_neg (by rw [H.out.wide]; decide),← HO.out] at this
     exact this.symm
    | some q =>
     obtain ⟨r,c⟩:=q
     have hbe:Calls Tryz.prog 48 #[.slice pa n pc] w3 fun e w' => Kept w3 w'∧e = .returned (.tuple #[.int .i64 (r:Int),.int .i64 (c:Int),.bool true,.int .i64 ck]):=hbe
     obtain ⟨hfits,hpz,hnr,hnc⟩:=H.out.fits.snoc ho.symm
     have hbst:=Sp.best_some.1 ho.symm
     obtain ⟨b,hb⟩:=H.out.some r hbst.row
     have HP:=hid (And.intro hfits (And.intro (show stg M ps r c ≠ 0 from hpz) (And.intro (leftR_iff.2 hnr) (And.intro (leftC_iff.2 hnc) (And.intro hbst.row (And.intro hbst.col hb))))))
     have HO:=hid ho
     clear hfits hpz hnr hnc hbst hb ho
     --%E
     go_wp2_with fail
     refine hbe.mono ?_
     rintro e w4 ⟨hk,rfl⟩
     have hsk:=H.out.fac.len
     have hla:=last_any B fb n limbs sa sk sc Ss M ps w4 (H3.out.2.1.kept hk) (Ba.last_ne H.out.fits.piv) (by have:=H.out.len; omega)
     have H4:=hid (And.intro (H3.out.2.1.kept hk) (And.intro (H3.out.2.2.1.kept hk) (H3.out.2.2.2.trans (KX.of hk))))
     have HS:=hid hsk
     clear hk hbe hsk
     --%F
     go_wp2_with fail
     refine hla.mono ?_
     rintro e w5 ⟨hk,sq,oq,kq,cq,rfl,hz⟩
     have hBw:B≤w4.heap.size:=by have:=H4.out.2.2.size; have:=HH.out.2.2.2; omega
     have H5:=hid (And.intro (H4.out.1.kept hk) (And.intro (H4.out.2.1.kept hk) (H4.out.2.2.trans (KX.of hk))))
     have htk:=take_any B n bt r c b ms' (stF n M ps) ao cap sq oq kq cq (lastP M ps) w5 H5.out.2.1 HP.out.2.2.2.2.1 HP.out.2.2.2.2.2.1 HP.out.2.2.2.2.2.2 (by rw [stF_at HP.out.2.2.2.2.1 HP.out.2.2.2.2.2.1 HP.out.2.2.1 HP.out.2.2.2.1]; exact HP.out.2.1) (hz.mono hBw) (by have:=hk.size; omega) (by omega)
     clear hla hz hk hBw
     --%G
     go_wp2_with fail
     refine htk.mono ?_
     rintro e w6 ⟨hx,v6,bd,rfl,hbd,⟨s1,o1,k1,c1,s2,o2,k2,c2,rfl,hz1,hz2,hma,hmd⟩,hT6⟩
     rw [stF_at HP.out.2.2.2.2.1 HP.out.2.2.2.2.2.1 HP.out.2.2.1 HP.out.2.2.2.1] at hz1
     have hfac6:=H5.out.1.tab H5.out.2.1 hx H.out.sep
     obtain ⟨St,hSt⟩:∃ St:StC,St = ⟨r,c,s1,o1,k1,c1,s2,o2,k2,c2,b,bd⟩:=⟨_,rfl⟩
     have hok:StOk B w6 n M St ps r c:=by rw [hSt]; exact ⟨rfl,rfl,hz1,hz2,hma,hmd⟩
     have hkx6:KX (fun b => B≤b) w w6:=H5.out.2.2.then hx (fun i hi => .inl (H5.out.2.1.lt i hi).2)
     have hmem:∀ S ∈ Ss ++ [St],S.ba < w6.heap.size∧S.bd < w6.heap.size:=by
      intro S hS
      rcases List.mem_append.1 hS with hS | hS
      ·
       obtain ⟨g,d,h1,h2⟩:=hfac6.sts.mem S hS
       exact ⟨h1.lt,h2.lt⟩
      ·
       rw [List.mem_singleton.1 hS,hSt]
       exact ⟨hma.lt,hmd.lt⟩
     have rA:=RowL.alloc 87 w6 [.int .i64 (r:Int),.int .i64 (c:Int),.bool s1,.slice o1 k1 c1,.bool s2,.slice o2 k2 c2,.map (some b),.map (some bd)]
     have kA:=(Kept.refl w6).alloc (.cells #[.int .i64 (r:Int),.int .i64 (c:Int),.bool s1,.slice o1 k1 c1,.bool s2,.slice o2 k2 c2,.map (some b),.map (some bd)] 87)
     have hown9:(Value.slice sa sk sc).ownBlock ≠ some w6.heap.size:=fun e => by have:=(hfac6.own_lt _ e).2; omega
     have H6:=hid (And.intro hfac6 (And.intro hok (And.intro hT6 (And.intro hkx6 (And.intro hSt (And.intro hmem (And.intro hma (And.intro hmd (And.intro hz1 hz2)))))))))
     clear htk hx hbd hz1 hz2 hma hmd hT6 hfac6 hSt hok hkx6 hmem
     --%H
     go_upto_region 9 with fail
     obtain ⟨p9,hp9⟩:∃ p,p = w6.heap.size:=⟨_,rfl⟩
     rw [← hp9] at rA hown9 ⊢
     clear hp9
     generalize w6.alloc (.cells #[.int .i64 (r:Int),.int .i64 (c:Int),.bool s1,.slice o1 k1 c1,.bool s2,.slice o2 k2 c2,.map (some b),.map (some bd)] 87) = w7 at rA kA ⊢
     have H7:=hid (And.intro (H6.out.1.kept kA) (And.intro (H6.out.2.1.kx (T:=fun _ => False) (KX.of kA) (fun _ h => h.elim) (fun h => h) (fun h => h)) (And.intro (H6.out.2.2.1.kept kA) (And.intro (H6.out.2.2.2.1.trans (KX.of kA)) (And.intro rA (And.intro hown9 kA.size))))))
     clear rA kA hown9
     have c0:=H7.out.1.box.cell 1 _
     have KT:Kept w7 w7.drew:=(Kept.refl _).drew
     have sS:=hid (fun (V:World) (h1:V.cell? ⟨fb,1,none⟩ = some (.slice sa sk sc)) (R:RowL 87 V p9 [.int .i64 (r:Int),.int .i64 (c:Int),.bool s1,.slice o1 k1 c1,.bool s2,.slice o2 k2 c2,.map (some b),.map (some bd)]) => And.intro h1 (And.intro (R.cell 0 _ rfl) (And.intro (R.cell 1 _ rfl) (And.intro (R.cell 2 _ rfl) (And.intro (R.cell 3 _ rfl) (And.intro (R.cell 4 _ rfl) (And.intro (R.cell 5 _ rfl) (And.intro (R.cell 6 _ rfl) (R.cell 7 _ rfl)))))))))
     refine region_z 10 (S:=fun w' => w'.cell? ⟨fb,1,none⟩ = some (.slice sa sk sc)∧w'.cell? ⟨p9,0,none⟩ = some (.int .i64 (r:Int))∧w'.cell? ⟨p9,1,none⟩ = some (.int .i64 (c:Int))∧w'.cell? ⟨p9,2,none⟩ = some (.bool s1)∧w'.cell? ⟨p9,3,none⟩ = some (.slice o1 k1 c1)∧w'.cell? ⟨p9,4,none⟩ = some (.bool s2)∧w'.cell? ⟨p9,5,none⟩ = some (.slice o2 k2 c2)∧w'.cell? ⟨p9,6,none⟩ = some (.map (some b))∧w'.cell? ⟨p9,7,none⟩ = some (.map (some bd))) (by kernel_rfl) (sS.out _ ((H7.out.1.kept KT).box.cell 1 _) (H7.out.2.2.2.2.1.kept KT)) (fun hHeld => ?_)
     clear c0
     generalize w7.drew = Wd at KT hHeld ⊢
     refine zk 0 hHeld ?_
     refine zk 1 hHeld ?_
     refine zk 2 hHeld ?_
     refine zk 3 hHeld ?_
     refine zk 4 hHeld ?_
     refine zk 5 hHeld ?_
     refine zr 6 fun K hK => ?_
     go_simp
     have kD:=KT.alloc (.cells #[.int .i64 (r:Int),.int .i64 (c:Int),.bool s1,.slice o1 k1 c1,.bool s2,.slice o2 k2 c2,.map (some b),.map (some bd)] 87)
     refine hK.out _ _ (sS.out _ ((H7.out.1.kept kD).box.cell 1 _) (H7.out.2.2.2.2.1.kept kD)) (fun hHeld => ?_)
     clear hK K
     --%I
     refine zr 7 fun K hK => ?_
     have hF:=H7.out.1.kept KT
     have hsl:sk = Ss.length:=by rw [hF.len,hF.sts.len]
     have hown:=World.ownsRow.alloc hF.sts.own (.cells #[.int .i64 (r:Int),.int .i64 (c:Int),.bool s1,.slice o1 k1 c1,.bool s2,.slice o2 k2 c2,.map (some b),.map (some bd)] 87)
     have rN:=RowL.alloc 87 Wd [.int .i64 (r:Int),.int .i64 (c:Int),.bool s1,.slice o1 k1 c1,.bool s2,.slice o2 k2 c2,.map (some b),.map (some bd)]
     have hSn:Ss.length≤48:=by rw [← hsl,HS.out,H.out.len]; omega
     refine wp_append_lies _ (.tmp 40) (.tmp 42) 65 rfl B 87 i0 (.agg #[.int .i64 0,.int .i64 0,.bool false,.slice none 0 0,.bool false,.slice none 0 0,.map none,.map none]) 8 96 und_stages hi hz0 hz1 hz2 rfl (by decide) (.slice sa sk sc) Ss.length (Ss.flatMap StC.cells) rfl hown ⟨Wd.heap.size,0,none⟩ 1 1 [.int .i64 (r:Int),.int .i64 (c:Int),.bool s1,.slice o1 k1 c1,.bool s2,.slice o2 k2 c2,.map (some b),.map (some bd)] rfl rfl (fun j u hu => by
      rw [Sp.addr_add,Nat.zero_add]
      exact rN.cell j u hu) (fun u hu => by
      simp at hu
      rcases hu with rfl | rfl | rfl | rfl | rfl | rfl | rfl | rfl <;> rfl) (by omega) (by unfold maxLen; omega) (by omega) (by have h1:=H7.out.2.2.2.1.size; have h2:=HH.out.2.2.2; have h3:=KT.size; simp; omega) _ rfl ?_
     intro g4 cap4 W4 own4 hg4 _ _
     have hpush:=hF.push (S:=St) (r:=r) (c:=c) (H7.out.2.1.kx (T:=fun _ => False) (KX.of KT) (fun _ h => h.elim) (fun h => h) (fun h => h)) (H7.out.2.2.1.kept KT) (tmp:=.cells #[.int .i64 (r:Int),.int .i64 (c:Int),.bool s1,.slice o1 k1 c1,.bool s2,.slice o2 k2 c2,.map (some b),.map (some bd)] 87) (W4:=W4) (g4:=g4) (cap4:=cap4) (by rw [H6.out.2.2.2.2.1]; exact own4) hg4
     obtain ⟨q1,q2,q3,q4,q5,q6,q7⟩:=hpush
     have r9:RowL 87 W4 p9 [.int .i64 (r:Int),.int .i64 (c:Int),.bool s1,.slice o1 k1 c1,.bool s2,.slice o2 k2 c2,.map (some b),.map (some bd)]:=by
      have h1:=(H7.out.2.2.2.2.1.kept KT).kept ((Kept.refl Wd).alloc (.cells #[.int .i64 (r:Int),.int .i64 (c:Int),.bool s1,.slice o1 k1 c1,.bool s2,.slice o2 k2 c2,.map (some b),.map (some bd)] 87))
      exact World.rowIs.of_block h1 (hg4.block p9 h1.lt (fun e => H7.out.2.2.2.2.2.1 e.symm))
     have H8:=hid (And.intro q1 (And.intro q2 (And.intro ((H7.out.2.2.2.1.trans (KX.of KT)).trans q3) (q4 p9 _ (H7.out.2.2.2.2.1.kept KT) H7.out.2.2.2.2.2.1))))
     refine hK.out _ _ (sS.out _ q5 r9) (fun hHeld => ?_)
     clear hK K own4 hg4 q1 q2 q3 q4 q7 hF hown rN r9
     --%J
     refine zr 8 fun K hK => ?_
     go_simp
     refine hK.out _ _ hHeld (fun hHeld => ?_)
     clear hK K
     refine zk 9 hHeld ?_
     refine zl fun K hK => ?_
     go_simp
     refine hK.out _ _ ?_
     clear hK K hHeld q5 q6 KT kD
     refine zd ?_
     generalize W4.setCell ⟨fb,1,none⟩ (.slice (some ⟨g4,0,none⟩) (Ss.length + 1) cap4) = w8 at H8 ⊢
     --%K
     have hlS:Ss.length < (Ss ++ [St]).length:=by simp
     have hlP:Ss.length < (ps ++ [(r,c)]).length:=by rw [← H8.out.1.sts.len]; exact hlS
     have hso:StOk B w8 n M St ps r c:=by
      have h1:=H8.out.1.sts.st Ss.length hlS hlP
      have hsl:Ss.length = ps.length:=H.out.fac.sts.len
      rw [List.getElem_append_right (Nat.le_refl _)] at h1
      simp only [Nat.sub_self,List.getElem_cons_zero] at h1
      have e3:(ps ++ [(r,c)])[Ss.length]'hlP = (r,c):=by
       rw [List.getElem_append_right (by omega)]
       simp [hsl]
      rw [e3,List.take_append_of_le_length (by omega),List.take_of_length_le (by omega)] at h1
      exact h1
     rw [H6.out.2.2.2.2.1] at hso
     have hrd:=reduce_any B n bt r c b bd (fun i => if i = r then none else ms' i) (fun i j => if i = r then 0 else if j = c then 0 else stF n M ps i j) (stF n M (ps ++ [(r,c)])) ao cap s1 s2 o1 o2 k1 c1 k2 c2 (stg M ps r c) (lastP M ps) (fun j => if j = c then 0 else stF n M ps r j) (fun i => if i < n∧i ≠ r then stF n M ps i c else 0) w8 H8.out.2.1 hso.zp hso.zq hso.za hso.zd (fun i hi => by
      have:=stF_next H.out.fits HP.out.2.2.2.2.1 HP.out.2.2.2.2.2.1 HP.out.2.2.1 HP.out.2.2.2.1 HP.out.2.1 (stF_lim hl H.out.wide) i hi
      rw [stF_at HP.out.2.2.2.2.1 HP.out.2.2.2.2.2.1 HP.out.2.2.1 HP.out.2.2.2.1] at this
      exact this) (by have h1:=H8.out.2.2.1.size; have h2:=HH.out.2.2.2; omega) (by omega)
     have d0:=H8.out.2.2.2.cell 0 _
     have d1:=H8.out.2.2.2.cell 1 _
     have d2:=H8.out.2.2.2.cell 2 _
     have d3:=H8.out.2.2.2.cell 3 _
     have d4:=H8.out.2.2.2.cell 4 _
     have d5:=H8.out.2.2.2.cell 5 _
     have d6:=H8.out.2.2.2.cell 6 _
     have d7:=H8.out.2.2.2.cell 7 _
     clear hso hlS hlP
     --%L
     go_wp2_with fail
     refine hrd.mono ?_
     rintro e w9 ⟨rfl,hx,mn,hT9,hmn⟩
     have hfac9:FacR B w9 fb n limbs (some ⟨g4,0,none⟩) (Ss.length + 1) cap4 (Ss ++ [St]) M (ps ++ [(r,c)]):=by
      have hfr:∀ t,t ≠ 85→Free t (fun b => 0 < n∧b = bt) w8:=fun t ht k hk => H8.out.2.1.free ht k (.inl hk)
      refine H8.out.1.kx hx (hfr _ (by decide)) (hfr _ (by decide)) (hfr _ (by decide)) fun S hS => ?_
      obtain ⟨g,d,h1,h2⟩:=H8.out.1.sts.mem S hS
      exact ⟨fun e => H8.out.2.1.far e.1 h1 e.2,fun e => H8.out.2.1.far e.1 h2 e.2⟩
     have hsep:Sep n mn (Ss ++ [St]):=by
      intro i hi S hS
      obtain ⟨g,d,h1,h2⟩:=H8.out.1.sts.mem S hS
      obtain ⟨q,hq,hq2⟩:=hmn i hi
      have h3:=h1.lt
      have h4:=h2.lt
      constructor
      ·
       intro e; rw [hq] at e; injection e with e; omega
      ·
       intro e; rw [hq] at e; injection e with e; omega
     have hkx9:KX (fun b => B≤b) w w9:=H8.out.2.2.1.then hx (fun i hi => .inl (H8.out.2.1.lt i (.inl hi)).2)
     have H9:=hid (And.intro hfac9 (And.intro hT9 (And.intro hkx9 (And.intro hsep (show ∀ i,i < n→∃ b,mn i = some b from fun i hi => by obtain ⟨q,hq,_⟩:=hmn i hi; exact ⟨q,hq⟩)))))
     have hwt:=widet_any B n bt mn (stF n M (ps ++ [(r,c)])) ao cap limbs w9 hT9 H9.out.2.2.2.2 (by omega)
     rw [stF_wide] at hwt
     have c0:=hfac9.box.cell 0 _
     have hgo:facGo n limbs M (n - (k + 1)) (ps ++ [(r,c)]) = facS n limbs M:=by
      have:=H.out.go
      have hL:=HL.out
      rw [show n - k = (n - (k + 1)) + 1 by omega] at this
      unfold facGo at this
      rw [if_neg (by rw [H.out.wide]; decide),← HO.out] at this
      exact this
     have HG:=hid hgo
     have HLn:=hid (show (ps ++ [(r,c)]).length = k + 1 by rw [List.length_append,H.out.len]; rfl)
     clear hrd hx hT9 hmn hfac9 hsep hkx9 hgo d0 d1 d2 d3 d4 d5 d6 d7
     obtain ⟨wb,hwb⟩:∃ x,x = wideM n limbs (stg M (ps ++ [(r,c)])) (ps ++ [(r,c)]):=⟨_,rfl⟩
     rw [← hwb] at hwt
     have HWB:=hid hwb
     clear hwb
     cases wb with
     | true =>
      --%M
      go_wp2_with fail
      refine hwt.mono ?_
      rintro e wa ⟨hk,rfl⟩
      have HK:=hid hk
      clear hk hwt c0
      go_wp2_with fail
      show Q (.returned (.int .i64 13)) wa
      rw [HQ.out]
      refine ⟨H9.out.2.2.1.trans (KX.of HK.out),13,ps ++ [(r,c)],_,_,_,Ss ++ [St],rfl,?_,HP.out.1,H9.out.1.kept HK.out⟩
      have:=HG.out
      generalize n - (k + 1) = m at this
      cases m with
      | zero => unfold facGo at this; rw [if_pos HWB.out.symm] at this; exact this.symm
      | succ m => unfold facGo at this; rw [if_pos HWB.out.symm] at this; exact this.symm
     | false =>
      --%N
      go_wp2_with fail
      refine hwt.mono ?_
      rintro e wa ⟨hk,rfl⟩
      have HK:=hid hk
      clear hk hwt c0
      go_wp2_with fail
      go_roundw
      case rel =>
       refine ⟨k + 1,_,_,_,Ss ++ [St],ps ++ [(r,c)],mn,by have:=HL.out; omega,by go_num,H9.out.2.2.1.trans (KX.of HK.out),HLn.out,HG.out,HP.out.1,HWB.out.symm,H9.out.1.kept HK.out,H9.out.2.1.kept HK.out,H9.out.2.2.2.2,H9.out.2.2.2.1⟩
      case measure => show n - ((k:Int) + 1).toNat < n - (k:Int).toNat; have:=HL.out; omega
   ·
    have hltz:¬ (k:Int) < (n:Int):=by omega
    have hkn2:k = n:=by omega
    subst hkn2
    go_wp2_with fail
    show Q (.returned (.int .i64 0)) w2
    rw [HQ.out]
    refine ⟨H.out.kx,0,ps,sa,sk,sc,Ss,rfl,?_,H.out.fits,H.out.fac⟩
    have:=H.out.go
    rw [← this,Nat.sub_self]
    unfold facGo
    rw [if_neg (by rw [H.out.wide]; decide)]
end Bp
end Go.Proofs.YtdcgdpbgnijnpaaGreat

namespace Go.Proofs.YtdcgdpbgnijnpaaGreat
open Go.RowKit
open V (RowL RowL.alloc RowL.lt RowL.cell RowL.fz RowL.kept)
open Sp (hid)
open Ba (stg lastP pivs leftR leftC wideZ wideM nz facGo facS Fits leftR_iff leftC_iff stg_snoc stg_exact pivs_snoc ext ext_pivs ext_stg)
open Bm (ZI ZI.kept)
namespace Bp
theorem tw_all {ps:List (Nat × Nat)} {i:Nat} (h:i ∉ ps.map Prod.fst):ps.takeWhile (fun p => p.1 != i) = ps:=by
 induction ps with
 | nil => rfl
 | cons p t ih =>
  rw [List.map_cons,List.mem_cons,not_or] at h
  rw [List.takeWhile_cons,if_pos (by simpa using fun e => h.1 e.symm),ih h.2]
theorem tw_hit {ps qs:List (Nat × Nat)} {i:Nat} (h:i ∈ ps.map Prod.fst):(ps ++ qs).takeWhile (fun p => p.1 != i) = ps.takeWhile (fun p => p.1 != i):=by
 induction ps with
 | nil => cases h
 | cons p t ih =>
  rw [List.map_cons,List.mem_cons] at h
  rw [List.cons_append,List.takeWhile_cons,List.takeWhile_cons]
  by_cases e:p.1 = i
  ·
   rw [if_neg (by simp [e]),if_neg (by simp [e])]
  ·
   rw [if_pos (by simpa using e),if_pos (by simpa using e),ih (h.resolve_left fun e2 => e e2.symm)]
theorem tw_own {ps:List (Nat × Nat)} {r c:Nat} (h:r ∉ ps.map Prod.fst):(ps ++ [(r,c)]).takeWhile (fun p => p.1 != r) = ps:=by
 induction ps with
 | nil => simp
 | cons p t ih =>
  rw [List.map_cons,List.mem_cons,not_or] at h
  rw [List.cons_append,List.takeWhile_cons,if_pos (by simpa using fun e => h.1 e.symm),ih h.2]
def sdF (n:Nat) (M:Nat→Nat→Int) (b:Nat→Int) (ps:List (Nat × Nat)) (i:Nat):Int:=stg (ext n M b) (ps.takeWhile fun p => p.1 != i) i n
section
variable {n limbs:Nat} {M:Nat→Nat→Int} {b:Nat→Int} {ps:List (Nat × Nat)} {i r c:Nat}
theorem sdF_nil:sdF n M b [] i = b i:=by
 show (if n = n then b i else M i n) = b i
 rw [if_pos rfl]
theorem sdF_left (h:i ∉ ps.map Prod.fst):sdF n M b ps i = stg (ext n M b) ps i n:=by unfold sdF; rw [tw_all h]
theorem sdF_same (hr:r ∉ ps.map Prod.fst) (h:i ∈ (ps ++ [(r,c)]).map Prod.fst):sdF n M b (ps ++ [(r,c)]) i = sdF n M b ps i:=by
 rw [List.map_append,List.mem_append] at h
 by_cases e:i ∈ ps.map Prod.fst
 ·
  unfold sdF
  rw [tw_hit e]
 ·
  have e2:i = r:=by simpa using h.resolve_left e
  subst e2
  unfold sdF
  rw [tw_own hr,tw_all hr]
theorem sdF_step (hp:pivs M 1 ps) (hn:∀ p ∈ ps,p.2 ≠ n) (hc:c ≠ n) (hz:stg M ps r c ≠ 0) (h1:i ∉ ps.map Prod.fst) (h2:i ≠ r) (h3:r ∉ ps.map Prod.fst) :
  sdF n M b (ps ++ [(r,c)]) i * lastP M ps = stg M ps r c * sdF n M b ps i - stg M ps i c * sdF n M b ps r:=by
 obtain ⟨e1,e2⟩:=ext_stg (M:=M) (b:=b) hn
 have hE:=ext_pivs (b:=b) hp hn
 rw [sdF_left (ps:=ps ++ [(r,c)]) (by rw [List.map_append,List.mem_append]; simp only [List.map_cons,List.map_nil,List.mem_singleton]; rintro (h | h); exact h1 h; exact h2 h),sdF_left h1,sdF_left h3,e1 r c hc,e1 i c hc,e2,Int.mul_comm]
 exact (stg_exact hE (by rw [← e1 r c hc]; exact hz) i n).symm
theorem fac_wide {qs:List (Nat × Nat)}:∀ (fuel:Nat) (ps:List (Nat × Nat)),facGo n limbs M fuel ps = (qs,0)→(∃ t,qs = ps ++ t)∧∀ k,ps.length≤k→k≤qs.length→wideM n limbs (stg M (qs.take k)) (qs.take k) = false:=by
 intro fuel
 induction fuel with
 | zero =>
  intro ps h
  unfold facGo at h
  cases hw:wideM n limbs (stg M ps) ps with
  | true => rw [if_pos hw] at h; cases h
  | false =>
   rw [if_neg (by rw [hw]; decide)] at h
   cases h
   exact ⟨⟨[],by simp⟩,fun k h1 h2 => by rw [List.take_of_length_le h1]; exact hw⟩
 | succ fuel ih =>
  intro ps h
  unfold facGo at h
  cases hw:wideM n limbs (stg M ps) ps with
  | true => rw [if_pos hw] at h; cases h
  | false =>
   rw [if_neg (by rw [hw]; decide)] at h
   cases hb:Sp.bestOf n (nz (stg M ps) ps) with
   | none => rw [hb] at h; cases h
   | some p =>
    rw [hb] at h
    obtain ⟨⟨t,ht⟩,h2⟩:=ih (ps ++ [p]) h
    refine ⟨⟨p :: t,by rw [ht,List.append_assoc]; rfl⟩,fun k h3 h4 => ?_⟩
    by_cases e:k = ps.length
    ·
     rw [ht,e,List.append_assoc,List.take_left']
     ·
      exact hw
     ·
      rfl
    ·
     exact h2 k (by rw [List.length_append]; simp; omega) h4
theorem fac_num (hs:facS n limbs M = (ps,0)) {k:Nat} (hk:k≤ps.length) {i j:Nat} (hi:i < n) (hj:j < n) (h1:i ∉ (ps.take k).map Prod.fst) (h2:j ∉ (ps.take k).map Prod.snd):wideZ limbs (stg M (ps.take k) i j) = false:=by
 have h:=(fac_wide n [] hs).2 k (Nat.zero_le _) hk
 unfold wideM at h
 rw [List.any_eq_false] at h
 have h3:=h i (List.mem_range.2 hi)
 rw [Bool.not_eq_true,List.any_eq_false] at h3
 have h4:=h3 j (List.mem_range.2 hj)
 rw [leftR_iff.2 h1,leftC_iff.2 h2,Bool.true_and,Bool.true_and,Bool.not_eq_true] at h4
 exact h4
theorem all_rows (h:Fits n M ps) (hl:ps.length = n) (hi:i < n):i ∈ ps.map Prod.fst:=by
 have hp:=Ba.rest_perm h.rows (fun a ha => by obtain ⟨p,hp,rfl⟩:=List.mem_map.1 ha; exact (h.lt p hp).1)
 have h1:=hp.length_eq
 rw [List.length_append,List.length_map,List.length_range,hl] at h1
 have h2:=List.eq_nil_of_length_eq_zero (show ((List.range n).filter fun a => !(ps.map Prod.fst).contains a).length = 0 by omega)
 rw [h2,List.append_nil] at hp
 exact hp.mem_iff.2 (List.mem_range.2 hi)
theorem row_at (h:(ps.map Prod.fst).Nodup) {k:Nat} (hk:k < ps.length):ps[k].1 ∉ (ps.take k).map Prod.fst:=by
 intro hm
 have e:=List.take_append_drop k ps
 rw [← e,List.map_append,List.nodup_append] at h
 refine h.2.2 _ hm _ (List.mem_map_of_mem (List.mem_of_getElem? (i:=0) (a:=ps[k]) ?_)) rfl
 rw [List.getElem?_drop,Nat.add_zero,List.getElem?_eq_getElem hk]
theorem col_at (h:(ps.map Prod.snd).Nodup) {k:Nat} (hk:k < ps.length):ps[k].2 ∉ (ps.take k).map Prod.snd:=by
 intro hm
 have e:=List.take_append_drop k ps
 rw [← e,List.map_append,List.nodup_append] at h
 refine h.2.2 _ hm _ (List.mem_map_of_mem (List.mem_of_getElem? (i:=0) (a:=ps[k]) ?_)) rfl
 rw [List.getElem?_drop,Nat.add_zero,List.getElem?_eq_getElem hk]
theorem take_snoc {k:Nat} (hk:k < ps.length):ps.take (k + 1) = ps.take k ++ [(ps[k].1,ps[k].2)]:=by
 rw [List.take_add_one,List.getElem?_eq_getElem hk]; rfl
def midF (n:Nat) (M:Nat→Nat→Int) (b:Nat→Int) (ps:List (Nat × Nat)) (k t i:Nat):Int:=if i ∈ ((ps.drop (k + 1)).take t).map Prod.fst then sdF n M b (ps.take (k + 1)) i else sdF n M b (ps.take k) i
theorem midF_0 {k:Nat}:midF n M b ps k 0 i = sdF n M b (ps.take k) i:=by
 unfold midF
 rw [if_neg (by simp)]
theorem midF_row (h:(ps.map Prod.fst).Nodup) {k t:Nat} (hk:k < ps.length):midF n M b ps k t ps[k].1 = sdF n M b (ps.take k) ps[k].1:=by
 unfold midF
 rw [if_neg]
 intro hm
 have h2:=row_at h (k:=k) hk
 have e:=List.take_append_drop (k + 1) ps
 rw [← e,List.map_append,List.nodup_append] at h
 refine h.2.2 ps[k].1 ?_ _ (((List.take_sublist _ _).map Prod.fst).subset hm) rfl
 rw [take_snoc hk,List.map_append,List.mem_append]
 exact .inr (by simp)
theorem midF_end (h:Fits n M ps) (hl:ps.length = n) {k t:Nat} (hk:k < ps.length) (ht:ps.length - (k + 1)≤t) (hi:i < n):midF n M b ps k t i = sdF n M b (ps.take (k + 1)) i:=by
 unfold midF
 rw [List.take_of_length_le (by rw [List.length_drop]; exact ht)]
 by_cases hm:i ∈ (ps.drop (k + 1)).map Prod.fst
 ·
  rw [if_pos hm]
 ·
  rw [if_neg hm]
  have h1:=all_rows h hl hi
  rw [← List.take_append_drop (k + 1) ps,List.map_append,List.mem_append] at h1
  have h2:=h1.resolve_right hm
  rw [take_snoc hk] at h2 ⊢
  exact (sdF_same (row_at h.rows hk) h2).symm
theorem mid_step (h:Fits n M ps) (hl:ps.length = n) (hs:facS n limbs M = (ps,0)) (hL:limbs≤32) {k t:Nat} (hk:k < ps.length) (ht:k + 1 + t < ps.length) :
  ps[k + 1 + t].1 < n∧ps[k].1 < n∧(if ps[k + 1 + t].1 < n∧ps[k + 1 + t].1 ≠ ps[k].1 then stF n M (ps.take k) ps[k + 1 + t].1 ps[k].2 else 0) = stg M (ps.take k) ps[k + 1 + t].1 ps[k].2 ∧
  (stg M (ps.take k) ps[k].1 ps[k].2).natAbs < W32∧(stg M (ps.take k) ps[k + 1 + t].1 ps[k].2).natAbs < W32∧lastP M (ps.take k) ≠ 0 ∧
  sdF n M b (ps.take (k + 1)) ps[k + 1 + t].1 * lastP M (ps.take k) = stg M (ps.take k) ps[k].1 ps[k].2 * midF n M b ps k t ps[k + 1 + t].1 - stg M (ps.take k) ps[k + 1 + t].1 ps[k].2 * midF n M b ps k t ps[k].1 ∧
  (∀ i,midF n M b ps k (t + 1) i = upd (midF n M b ps k t) ps[k + 1 + t].1 (sdF n M b (ps.take (k + 1)) ps[k + 1 + t].1) i) ∧
  midF n M b ps k t ps[k + 1 + t].1 = sdF n M b (ps.take k) ps[k + 1 + t].1∧midF n M b ps k t ps[k].1 = sdF n M b (ps.take k) ps[k].1:=by
 have hm:∀ p ∈ ps,p.1 < n∧p.2 < n:=h.lt
 have m0:=hm _ (List.getElem_mem hk)
 have m1:=hm _ (List.getElem_mem ht)
 have r1:=row_at h.rows (k:=k + 1 + t) ht
 have r0:=row_at h.rows (k:=k) hk
 have c0:=col_at h.cols (k:=k) hk
 have hin:ps[k] ∈ ps.take (k + 1 + t):=List.mem_of_getElem? (i:=k) (by rw [List.getElem?_take_of_lt (by omega),List.getElem?_eq_getElem hk])
 have hne:ps[k + 1 + t].1 ≠ ps[k].1:=fun e => r1 (by rw [e]; exact List.mem_map_of_mem hin)
 have r2:ps[k + 1 + t].1 ∉ (ps.take k).map Prod.fst:=fun hx => r1 (by
  have e:ps.take k = (ps.take (k + 1 + t)).take k:=by rw [List.take_take,Nat.min_eq_left (by omega)]
  rw [e] at hx
  exact ((List.take_sublist _ _).map Prod.fst).subset hx)
 have hpv:=Ba.pivs_take h.piv k
 have hz:stg M (ps.take k) ps[k].1 ps[k].2 ≠ 0:=by
  have:=Ba.pivs_take h.piv (k + 1)
  rw [take_snoc hk] at this
  exact ((pivs_snoc _ _ _ _).1 this).2
 have hnx:ps[k + 1 + t].1 ∉ ((ps.drop (k + 1)).take t).map Prod.fst:=fun hx => r1 (by
  have e:(ps.drop (k + 1)).take t = (ps.take (k + 1 + t)).drop (k + 1):=by rw [List.drop_take,show k + 1 + t - (k + 1) = t by omega]
  rw [e] at hx
  exact ((List.drop_sublist _ _).map Prod.fst).subset hx)
 have e1:midF n M b ps k t ps[k + 1 + t].1 = sdF n M b (ps.take k) ps[k + 1 + t].1:=by unfold midF; rw [if_neg hnx]
 refine ⟨m1.1,m0.1,?_,?_,?_,Ba.last_ne hpv,?_,fun i => ?_,e1,midF_row h.rows hk⟩
 ·
  rw [if_pos ⟨m1.1,hne⟩,stF_at m1.1 m0.2 (leftR_iff.2 r2) (leftC_iff.2 c0)]
 ·
  exact not_wide_32 hL (fac_num hs (by omega) m0.1 m0.2 r0 c0)
 ·
  exact not_wide_32 hL (fac_num hs (by omega) m1.1 m0.2 r2 c0)
 ·
  rw [e1,midF_row h.rows hk,take_snoc hk]
  exact sdF_step hpv (fun p hp => by have:=(hm p (List.mem_of_mem_take hp)).2; omega) (by omega) hz r2 hne r0
 ·
  have e2:(ps.drop (k + 1)).take (t + 1) = (ps.drop (k + 1)).take t ++ [ps[k + 1 + t]]:=by
   rw [List.take_add_one,List.getElem?_drop,List.getElem?_eq_getElem ht]; rfl
  have e3:i ∈ ((ps.drop (k + 1)).take (t + 1)).map Prod.fst ↔ i ∈ ((ps.drop (k + 1)).take t).map Prod.fst ∨ i = ps[k + 1 + t].1:=by
   rw [e2,List.map_append,List.mem_append]; simp
  clear e2
  unfold midF upd
  by_cases e:i = ps[k + 1 + t].1
  ·
   rw [if_pos e,if_pos (e3.2 (.inr e)),e]
  ·
   rw [if_neg e]
   show _ = if i ∈ ((ps.drop (k + 1)).take t).map Prod.fst then sdF n M b (ps.take (k + 1)) i else sdF n M b (ps.take k) i
   by_cases hx:i ∈ ((ps.drop (k + 1)).take t).map Prod.fst
   ·
    rw [if_pos hx,if_pos (e3.2 (.inl hx))]
   ·
    rw [if_neg hx,if_neg (fun h => (e3.1 h).elim hx e)]
end
def SdX (E:World→Bool→Value→Int→Prop) (B:Nat) (w:World) (so:Option Addr) (n sc:Nat) (zs:Nat→Int):Prop :=
 0 < n→∃ g xs,so = some ⟨g,0,none⟩∧w.ownsRow B 37 2 (.slice so n sc) n xs∧∀ j,j < n→∃ s ao k cap,xs[j * 2]? = some (.bool s)∧xs[j * 2 + 1]? = some (.slice ao k cap)∧E w s (.slice ao k cap) (zs j)
def Keeps (E:World→Bool→Value→Int→Prop):Prop:=∀ (T:Nat→Prop) (w w':World) (s:Bool) (v:Value) (z:Int),KX T w w'→Free 40 T w→E w s v z→E w' s v z
section
variable {E:World→Bool→Value→Int→Prop} {B:Nat} {w w':World} {so:Option Addr} {n sc:Nat} {zs:Nat→Int}
theorem SdX.kx {T:Nat→Prop} (h:SdX E B w so n sc zs) (hE:Keeps E) (k:KX T w w') (h1:Free 40 T w) (h2:Free 37 T w):SdX E B w' so n sc zs:=fun h0 => by
 obtain ⟨g,xs,e,ho,hx⟩:=h h0
 refine ⟨g,xs,e,own_free ho k h2,fun j hj => ?_⟩
 obtain ⟨s,ao,m,cap,x1,x2,x3⟩:=hx j hj
 exact ⟨s,ao,m,cap,x1,x2,hE T w w' s _ _ k h1 x3⟩
theorem SdX.kept (h:SdX E B w so n sc zs) (hE:Keeps E) (k:Kept w w'):SdX E B w' so n sc zs:=h.kx hE (T:=fun _ => False) (KX.of k) (fun _ h => h.elim) (fun _ h => h.elim)
theorem SdX.congr {zs':Nat→Int} (h:SdX E B w so n sc zs) (e:∀ j,j < n→zs j = zs' j):SdX E B w so n sc zs':=fun h0 => by
 obtain ⟨g,xs,e0,ho,hx⟩:=h h0
 refine ⟨g,xs,e0,ho,fun j hj => ?_⟩
 rw [← e j hj]
 exact hx j hj
theorem SdX.at (h:SdX E B w so n sc zs) {j:Nat} (hj:j < n):∃ g s ao k cap,so = some ⟨g,0,none⟩∧(B≤g∧g < w.heap.size)∧w.cell? ⟨g,j * 2,none⟩ = some (.bool s)∧w.cell? ⟨g,j * 2 + 1,none⟩ = some (.slice ao k cap)∧E w s (.slice ao k cap) (zs j)∧∀ i,w.frozen? ⟨g,i,none⟩ = false:=by
 obtain ⟨g,xs,rfl,ho,hx⟩:=h (by omega)
 obtain ⟨s,ao,k,cap,x1,x2,x3⟩:=hx j hj
 have hl:=World.ownsRow.lt ho g rfl
 exact ⟨g,s,ao,k,cap,rfl,hl,(ho.cellAt _ (by omega)).trans x1,(ho.cellAt _ (by omega)).trans x2,x3,ho.frozenAt⟩
theorem SdX.il (h:SdX E B w so n sc zs) (hI:∀ s v z,E w s v z→ZI w s v z):IL zs w (.slice so n sc) n:=by
 refine ⟨so,sc,rfl,fun h0 => ?_⟩
 obtain ⟨g,_,_,_,_,rfl,hg,_⟩:=h.at h0
 refine ⟨g,0,rfl,hg.2,fun j hj => ?_⟩
 obtain ⟨g',s,ao,k,cap,e,_,x1,x2,x3,_⟩:=h.at hj
 cases e
 exact ⟨s,ao,k,cap,by rw [Nat.zero_add]; exact x1,by rw [Nat.zero_add]; exact x2,hI _ _ _ x3⟩
theorem own_block {t:TypeId} {g sz cap m:Nat} {xs:List Value} (h:w.ownsRow B t sz (.slice (some ⟨g,0,none⟩) m cap) m xs):∃ cur fr,w.heap[g]? = some (.cells cur t fr):=by
 rcases h.2 with ⟨e,_⟩ | ⟨g',cap',cur,e,_,hg,_⟩
 ·
  cases e
 ·
  cases e
  exact ⟨cur,_,hg⟩
theorem SdX.free {g:Nat} (h:SdX E B w (some ⟨g,0,none⟩) n sc zs) (h0:0 < n) {t:TypeId} (ht:t ≠ 37):Free t (fun k => k = g) w:=by
 obtain ⟨g',xs,e,ho,_⟩:=h h0
 cases e
 obtain ⟨cur,fr,hb⟩:=own_block ho
 intro k hk cur' fr' hc
 rw [hk,hb] at hc
 cases hc
 exact ht rfl
theorem SdX.put {g j:Nat} {s:Bool} {ao:Option Addr} {k cap:Nat} {z:Int} (h:SdX E B w (some ⟨g,0,none⟩) n sc zs) (hE:Keeps E) (hj:j < n) (hz:E w s (.slice ao k cap) z) :
  SdX E B ((w.setCell ⟨g,j * 2,none⟩ (.bool s)).setCell ⟨g,j * 2 + 1,none⟩ (.slice ao k cap)) (some ⟨g,0,none⟩) n sc (upd zs j z)∧KX (fun k => k = g) w ((w.setCell ⟨g,j * 2,none⟩ (.bool s)).setCell ⟨g,j * 2 + 1,none⟩ (.slice ao k cap)):=by
 have hf:=h.free (by omega) (t:=40) (by decide)
 have kx:KX (fun k => k = g) w ((w.setCell ⟨g,j * 2,none⟩ (.bool s)).setCell ⟨g,j * 2 + 1,none⟩ (.slice ao k cap)):=((KX.refl w).setCell (T:=fun k => k = g) (p:=⟨g,j * 2,none⟩) (.inl rfl) _).setCell (p:=⟨g,j * 2 + 1,none⟩) (.inl rfl) _
 refine ⟨fun h0 => ?_,kx⟩
 obtain ⟨g',xs,e,ho,hx⟩:=h h0
 cases e
 have ho2:=((ho.stored (j * 2) (.bool s)).1.stored (j * 2 + 1) (.slice ao k cap)).1
 have hlen:xs.length = n * 2:=ho.1
 refine ⟨g,_,rfl,ho2,fun i hi => ?_⟩
 by_cases e:i = j
 ·
  subst e
  refine ⟨s,ao,k,cap,?_,?_,?_⟩
  ·
   rw [List.getElem?_set_ne (by omega),List.getElem?_set_self (by omega)]
  ·
   rw [List.getElem?_set_self (by rw [List.length_set]; omega)]
  ·
   unfold upd; rw [if_pos rfl]; exact hE _ _ _ _ _ _ kx hf hz
 ·
  obtain ⟨s',ao',k',cap',x1,x2,x3⟩:=hx i hi
  refine ⟨s',ao',k',cap',?_,?_,?_⟩
  ·
   rw [List.getElem?_set_ne (by omega),List.getElem?_set_ne (by omega)]; exact x1
  ·
   rw [List.getElem?_set_ne (by omega),List.getElem?_set_ne (by omega)]; exact x2
  ·
   unfold upd; rw [if_neg e]; exact hE _ _ _ _ _ _ kx hf x3
end
def EN (B:Nat):World→Bool→Value→Int→Prop:=fun w s v z => ZN B w s v z
theorem EN.keeps (B:Nat):Keeps (EN B):=fun _ _ _ _ _ _ k h hz => hz.kx k h
def EM (w0:World):World→Bool→Value→Int→Prop:=fun w s v z => ZI w0 s v z ∨ ZN w0.heap.size w s v z
theorem EM.keeps (w0:World):Keeps (EM w0):=fun _ _ _ _ _ _ k h hz => hz.imp id fun hz => hz.kx k h
theorem EM.zi {w0 w:World} (k:Kept w0 w):∀ s v z,EM w0 w s v z→ZI w s v z:=fun _ _ _ h => h.elim (fun h => h.kept k) (fun h => h.zi)
end Bp
end Go.Proofs.YtdcgdpbgnijnpaaGreat

namespace Go.Proofs.YtdcgdpbgnijnpaaGreat
open Go.RowKit Go.MapKept Go.Shelf
open V (RowL RowL.alloc RowL.lt RowL.cell RowL.fz RowL.kept)
attribute [local go_sem] Oper.semAt_some
namespace Bp
abbrev StC.v (S:StC):Value:=.agg #[.int .i64 (S.r:Int),.int .i64 (S.c:Int),.bool S.s1,.slice S.o1 S.k1 S.c1,.bool S.s2,.slice S.o2 S.k2 S.c2,.map (some S.ba),.map (some S.bd)]
def dn (n k:Nat):List Nat:=(List.range k).map fun i => n - 1 - i
theorem dn_succ (n k:Nat):dn n (k + 1) = dn n k ++ [n - 1 - k]:=by
 unfold dn
 rw [List.range_succ,List.map_append]
 rfl
theorem dn_len (n k:Nat):(dn n k).length = k:=by unfold dn; rw [List.length_map,List.length_range]
def StgC (W:World) (so:Option Addr) (n:Nat) (C:Nat→StC):Prop:=0 < n→∃ g,so = some ⟨g,0,none⟩∧g < W.heap.size∧∀ j,j < n→∀ i u,(C j).cells[i]? = some u→W.cell? ⟨g,j * 8 + i,none⟩ = some u
def KeepB (Bs:Nat) (so:Option Addr) (W W':World):Prop:=W'.heap[Bs]? = W.heap[Bs]?∧∀ g,so = some ⟨g,0,none⟩→W'.heap[g]? = W.heap[g]?
theorem KeepB.refl (Bs:Nat) (so:Option Addr) (W:World):KeepB Bs so W W:=⟨rfl,fun _ _ => rfl⟩
theorem KeepB.trans {Bs:Nat} {so:Option Addr} {A B C:World} (h:KeepB Bs so A B) (k:KeepB Bs so B C):KeepB Bs so A C:=⟨k.1.trans h.1,fun g e => (k.2 g e).trans (h.2 g e)⟩
theorem StgC.keep {Bs:Nat} {so:Option Addr} {W W':World} {n:Nat} {C:Nat→StC} (h:StgC W so n C) (k:KeepB Bs so W W') (hg:∀ g,so = some ⟨g,0,none⟩→g < W'.heap.size):StgC W' so n C:=fun h0 => by
 obtain ⟨g,e,h1,h2⟩:=h h0
 refine ⟨g,e,hg g e,fun j hj i u hu => ?_⟩
 rw [← h2 j hj i u hu]
 unfold World.cell?
 rw [k.2 g e]
set_option maxRecDepth 100000 in
set_option maxHeartbeats 4000000 in
theorem back1_in (m:Nat) (hm1:1≤m) (l Bs n sc:Nat) (so:Option Addr) (C:Nat→StC) (J Jx:List Nat→World→Prop) (hn:n≤1000)
  (hY:∀ (pre:List Nat) (x:Nat) (W:World),J pre W→pre.length < n→YieldAt Fence.wide (m - 1) Tryz.prog l #[.int .i64 (x:Int),(C x).v] W fun e W' => (e = .returned (.bool true)∧J (pre ++ [x]) W'∧KeepB Bs so W W') ∨ (e = .returned (.bool false)∧Jx (pre ++ [x]) W'))
  (W:World) (hc:W.cell? ⟨Bs,0,none⟩ = some (.slice so n sc)) (hS:StgC W so n C) (h0:J [] W) :
  CallsIn Fence.wide m Tryz.prog 92 #[.func (.yield l) #[] #[],.pointer (some ⟨Bs,0,none⟩)] W fun e W' => (∃ v,e = .returned v) ∧
   ((∃ ks:List Nat,ks = dn n n∧J ks W') ∨ (∃ pre:List Nat,(∃ k,k≤n∧pre = dn n k)∧Jx pre W')):=by
 refine callsIn_of_wp Tryz.func92 rfl trivial ?_ rfl
 simp only [Tryz.ntmps92,List.size_toArray,List.length_cons,List.length_nil,Nat.reduceAdd,Nat.reduceSub,Array.replicate_succ,Array.replicate_zero,List.push_toArray,List.append_toArray,List.nil_append,List.cons_append]
 have HW:=Sp.hid (And.intro hS hc)
 have H0:=Sp.hid h0
 clear hS h0
 --%A
 gi_wp2
 clear hc
 --%B
 gi_loopg [3] n (fun gg v3 wr => ∃ k:Nat,k≤n∧v3 = .int .i64 ((n:Int) - 1 - (k:Int))∧Hid (J (dn n k) wr∧KeepB Bs so W wr∧n - k≤gg))
 case atStart => exact ⟨0,Nat.zero_le _,by go_num,H0.out,KeepB.refl _ _ _,by omega⟩
 case round =>
  obtain ⟨k,hk,rfl,H⟩:=hrel
  have hc:wr.cell? ⟨Bs,0,none⟩ = some (.slice so n sc):=by
   rw [← HW.out.2]
   unfold World.cell?
   rw [H.out.2.1.1]
  by_cases hlt:k < n
  ·
   obtain ⟨j,hj⟩:∃ j,j = n - 1 - k:=⟨_,rfl⟩
   have ej:(n:Int) - 1 - (k:Int) = (j:Int):=by omega
   rw [ej]
   have hjn:j < n:=by omega
   have hjz:(j:Int) < (n:Int):=by omega
   have hj0:(0:Int)≤(j:Int):=by omega
   obtain ⟨g,rfl,_,hcl⟩:=HW.out.1 (by omega)
   have hx:=fun i u hu => (show wr.cell? ⟨g,j * 8 + i,none⟩ = W.cell? ⟨g,j * 8 + i,none⟩ by unfold World.cell?; rw [H.out.2.1.2 g rfl]).trans (hcl j hjn i u hu)
   have x0:wr.cell? ⟨g,j * 8,none⟩ = some (.int .i64 ((C j).r:Int)):=hx 0 _ rfl
   have x1:=hx 1 _ rfl
   have x2:=hx 2 _ rfl
   have x3:=hx 3 _ rfl
   have x4:=hx 4 _ rfl
   have x5:=hx 5 _ rfl
   have x6:=hx 6 _ rfl
   have x7:=hx 7 _ rfl
   have hdl:(dn n k).length < n:=by rw [dn_len]; exact hlt
   obtain ⟨fn,tmps,assign,body,hy,hY2⟩:=hY (dn n k) j wr H.out.1 hdl
   have HD:=Sp.hid (show dn n k ++ [j] = dn n (k + 1) by rw [dn_succ,hj])
   have HE:=Sp.hid ej
   clear hcl hx hdl hj ej
   --%C
   gi_wp2
   refine hY2.mono ?_
   rintro e W3 (⟨rfl,hJ3,hk3⟩ | ⟨rfl,hJx3⟩)
   ·
    have H3:=Sp.hid (And.intro hJ3 (H.out.2.1.trans hk3))
    clear hJ3 hk3
    --%D
    gi_wp2
    gi_roundg (n - (k + 1))
    case measure => have h1:=H.out.2.2; omega
    case rel => exact ⟨k + 1,by omega,by rw [← HE.out]; go_num,by rw [← HD.out]; exact H3.out.1,H3.out.2,by omega⟩
   ·
    gi_wp2
    refine bodyPost_ret (results_none rfl _ _ _) rfl ?_
    exact ⟨⟨_,rfl⟩,.inr ⟨_,⟨k + 1,by omega,HD.out⟩,hJx3⟩⟩
  ·
   obtain rfl:k = n:=by omega
   have ej:(k:Int) - 1 - (k:Int) = -1:=by omega
   rw [ej]
   --%E
   gi_wp2
   go_end0
   exact ⟨⟨_,rfl⟩,.inl ⟨_,rfl,H.out.1⟩⟩
end Bp
end Go.Proofs.YtdcgdpbgnijnpaaGreat

namespace Go.Proofs.YtdcgdpbgnijnpaaGreat
open Ba (stg lastP pivs leftR leftC Fits leftR_iff leftC_iff isum IsSol ext)
namespace Bp
def msum (n:Nat) (f X:Nat→Int):Int:=((List.range n).map fun c => f c * X c).sum
theorem sum_perm {l l':List Nat} (h:l.Perm l') (f:Nat→Int):(l.map f).sum = (l'.map f).sum:=by
 induction h with
 | nil => rfl
 | cons x _ ih => rw [List.map_cons,List.map_cons,List.sum_cons,List.sum_cons,ih]
 | swap x y l => simp only [List.map_cons,List.sum_cons]; omega
 | trans _ _ a b => exact a.trans b
theorem sum_null {l:List Nat} {f:Nat→Int} (h:∀ c ∈ l,f c = 0):(l.map f).sum = 0:=by
 induction l with
 | nil => rfl
 | cons x t ih => rw [List.map_cons,List.sum_cons,h x (List.mem_cons_self ..),ih fun c hc => h c (List.mem_cons_of_mem _ hc)]; rfl
theorem isum_sum (m:Nat→Nat→Int) (X:Nat→Int) (i:Nat) (l:List Nat):isum m X i l = (l.map fun c => m i c * X c).sum:=by
 induction l with
 | nil => rfl
 | cons x t ih => rw [List.map_cons,List.sum_cons,← ih]; rfl
section
variable {n:Nat} {M:Nat→Nat→Int} {b:Nat→Int} {ps:List (Nat × Nat)}
theorem cols_perm (h:Fits n M ps) (hl:ps.length = n):(ps.map Prod.snd).Perm (List.range n):=by
 have hp:=Ba.rest_perm h.cols (fun a ha => by obtain ⟨p,hp,rfl⟩:=List.mem_map.1 ha; exact (h.lt p hp).2)
 have h1:=hp.length_eq
 rw [List.length_append,List.length_map,List.length_range,hl] at h1
 have h2:=List.eq_nil_of_length_eq_zero (show ((List.range n).filter fun a => !(ps.map Prod.snd).contains a).length = 0 by omega)
 rw [h2,List.append_nil] at hp
 exact hp
def acr (n:Nat) (M:Nat→Nat→Int) (ps:List (Nat × Nat)) (j:Nat):Nat→Int:=fun c => if c = (ps.getD j (0,0)).2 then 0 else stF n M (ps.take j) (ps.getD j (0,0)).1 c
theorem getD_at {j:Nat} (hj:j < ps.length):ps.getD j (0,0) = ps[j]:=by rw [List.getD_eq_getElem?_getD,List.getElem?_eq_getElem hj]; rfl
theorem acr_sum (h:Fits n M ps) (hl:ps.length = n) {j:Nat} (hj:j < ps.length) (X:Nat→Int):msum n (acr n M ps j) X = isum (stg M (ps.take j)) X ps[j].1 ((ps.drop (j + 1)).map Prod.snd):=by
 have e:ps.map Prod.snd = (ps.take j).map Prod.snd ++ (ps[j].2 :: (ps.drop (j + 1)).map Prod.snd):=by
  rw [← List.map_cons (f:=Prod.snd),← List.drop_eq_getElem_cons hj,← List.map_append,List.take_append_drop]
 have hc:=h.cols
 rw [e,List.nodup_append] at hc
 obtain ⟨_,hc2,hc3⟩:=hc
 rw [List.nodup_cons] at hc2
 unfold msum
 rw [← sum_perm (cols_perm h hl),e,List.map_append,List.sum_append,List.map_cons,List.sum_cons,isum_sum]
 have e1:(((ps.take j).map Prod.snd).map fun c => acr n M ps j c * X c).sum = 0:=by
  refine sum_null fun c hm => ?_
  have:acr n M ps j c = 0:=by
   unfold acr
   split
   ·
    rfl
   ·
    unfold stF
    rw [if_neg]
    rintro ⟨_,_,h2⟩
    exact leftC_iff.1 h2 hm
  rw [this,Int.zero_mul]
 have e2:acr n M ps j ps[j].2 = 0:=by unfold acr; rw [getD_at hj,if_pos rfl]
 rw [e1,e2,Int.zero_mul,Int.zero_add,Int.zero_add]
 congr 1
 refine List.map_congr_left fun c hm => ?_
 have hcn:c < n:=by
  obtain ⟨p,hp,rfl⟩:=List.mem_map.1 hm
  exact (h.lt p (List.mem_of_mem_drop hp)).2
 have hrn:=(h.lt _ (List.getElem_mem hj)).1
 have:acr n M ps j c = stg M (ps.take j) ps[j].1 c:=by
  unfold acr
  rw [getD_at hj,if_neg (fun e => hc2.1 (by rw [← e]; exact hm)),stF_at hrn hcn (leftR_iff.2 (row_at h.rows hj)) (leftC_iff.2 fun hx => hc3 c hx c (List.mem_cons_of_mem _ hm) rfl)]
 rw [this]
def bkS (n:Nat) (M:Nat→Nat→Int) (b:Nat→Int) (ps:List (Nat × Nat)) (X:Nat→Int) (j:Nat):Nat→Int :=
 upd X (ps.getD j (0,0)).2 (quo0 (lastP M ps * sdF n M b ps (ps.getD j (0,0)).1 - msum n (acr n M ps j) X) (stg M (ps.take j) (ps.getD j (0,0)).1 (ps.getD j (0,0)).2))
def bkX (n:Nat) (M:Nat→Nat→Int) (b:Nat→Int) (ps:List (Nat × Nat)) (pre:List Nat):Nat→Int:=pre.foldl (bkS n M b ps) fun _ => 0
theorem bkX_snoc (pre:List Nat) (j:Nat):bkX n M b ps (pre ++ [j]) = bkS n M b ps (bkX n M b ps pre) j:=by
 unfold bkX
 rw [List.foldl_append]
 rfl
theorem isum_congr {m:Nat→Nat→Int} {X Y:Nat→Int} {i:Nat} {l:List Nat} (h:∀ c ∈ l,X c = Y c):isum m X i l = isum m Y i l:=by
 rw [isum_sum,isum_sum]
 congr 1
 exact List.map_congr_left fun c hc => by rw [h c hc]
theorem bkX_sol (h:Fits n M ps) (hl:ps.length = n) {Y:Nat→Int} (hY:IsSol n M b ps Y):∀ k,k≤n→∀ j (hj:j < ps.length),n - k≤j→bkX n M b ps (dn n k) ps[j].2 = Y ps[j].2:=by
 intro k
 induction k with
 | zero => intro _ j hj h1; omega
 | succ k ih =>
  intro hk j hj h1
  have ih:=ih (by omega)
  obtain ⟨i,hi⟩:∃ i,i = n - 1 - k:=⟨_,rfl⟩
  have hin:i < ps.length:=by omega
  rw [dn_succ,bkX_snoc,← hi]
  unfold bkS upd
  by_cases e:ps[j].2 = (ps.getD i (0,0)).2
  ·
   rw [if_pos e,getD_at hin]
   rw [getD_at hin] at e
   rw [e]
   have hst:=Ba.sol_step hY hin
   have hside:sdF n M b ps ps[i].1 = stg (ext n M b) (ps.take i) ps[i].1 n:=by
    have e4:sdF n M b ps ps[i].1 = sdF n M b (ps.take (i + 1)) ps[i].1:=by
     have h5:=tw_hit (ps:=ps.take (i + 1)) (qs:=ps.drop (i + 1)) (i:=ps[i].1) (by rw [take_snoc hin,List.map_append,List.mem_append]; exact .inr (by simp))
     rw [List.take_append_drop] at h5
     unfold sdF
     rw [h5]
    rw [e4,take_snoc hin,sdF_same (row_at h.rows hin) (by rw [List.map_append,List.mem_append]; exact .inr (by simp)),sdF_left (row_at h.rows hin)]
   have hpz:stg M (ps.take i) ps[i].1 ps[i].2 ≠ 0:=by
    have:=Ba.pivs_take h.piv (i + 1)
    rw [take_snoc hin] at this
    exact ((Ba.pivs_snoc _ _ _ _).1 this).2
   refine quo0_eq hpz ?_
   rw [acr_sum h hl hin,hside,isum_congr (X:=bkX n M b ps (dn n k)) (Y:=Y) (fun c hc => ?_),hst,Int.mul_comm]
   obtain ⟨p,hp,rfl⟩:=List.mem_map.1 hc
   obtain ⟨q,hq,rfl⟩:=List.getElem_of_mem hp
   rw [List.length_drop] at hq
   rw [List.getElem_drop]
   exact ih (i + 1 + q) (by omega) (by omega)
  ·
   rw [if_neg e]
   refine ih j hj ?_
   have:j ≠ i:=fun e2 => e (by subst e2; rw [getD_at hin])
   omega
end
end Bp
end Go.Proofs.YtdcgdpbgnijnpaaGreat

namespace Go.Proofs.YtdcgdpbgnijnpaaGreat
open Ba (stg lastP Fits IsSol)
namespace Bp
section
variable {n:Nat} {M:Nat→Nat→Int} {b:Nat→Int} {ps:List (Nat × Nat)}
def bkA (n:Nat) (M:Nat→Nat→Int) (b:Nat→Int) (ps:List (Nat × Nat)):Nat→Int:=bkX n M b ps (dn n n)
theorem bkA_sol (h:Fits n M ps) (hl:ps.length = n):IsSol n M b ps (bkA n M b ps):=by
 obtain ⟨Y,hY⟩:=Ba.sol_ex (n:=n) (b:=b) h.piv (fun p hp => by have:=(h.lt p hp).2; omega) h.cols
 refine ⟨fun k hk => ?_⟩
 rw [isum_congr (Y:=Y) (fun c hc => ?_)]
 ·
  exact hY.row k hk
 ·
  obtain ⟨p,hp,rfl⟩:=List.mem_map.1 hc
  obtain ⟨j,hj,rfl⟩:=List.getElem_of_mem (List.mem_of_mem_drop hp)
  exact bkX_sol h hl hY n (Nat.le_refl n) j hj (by omega)
theorem bkX_done (h:Fits n M ps) (hl:ps.length = n) {k:Nat} (hk:k≤n) {j:Nat} (hj:j < ps.length) (hjk:n - k≤j):bkX n M b ps (dn n k) ps[j].2 = bkA n M b ps ps[j].2:=by
 rw [bkX_sol h hl (bkA_sol h hl) k hk j hj hjk]
theorem bkX_left (h:Fits n M ps) {k:Nat} (hk:k≤n) (hl:ps.length = n) {j:Nat} (hj:j < ps.length) (hjk:j < n - k):bkX n M b ps (dn n k) ps[j].2 = 0:=by
 induction k with
 | zero => rfl
 | succ k ih =>
  rw [dn_succ,bkX_snoc]
  unfold bkS upd
  have hin:n - 1 - k < ps.length:=by omega
  rw [getD_at hin,if_neg]
  ·
   exact ih (by omega) (by omega)
  ·
   intro e
   have h1:=List.pairwise_iff_getElem.1 h.cols j (n - 1 - k) (by rw [List.length_map]; exact hj) (by rw [List.length_map]; exact hin) (by omega)
   rw [List.getElem_map,List.getElem_map] at h1
   exact h1 e
theorem col_stage (h:Fits n M ps) (hl:ps.length = n) {c:Nat} (hc:c < n):∃ j,∃ hj:j < ps.length,ps[j].2 = c:=by
 have hm:=(cols_perm h hl).mem_iff.2 (List.mem_range.2 hc)
 obtain ⟨p,hp,rfl⟩:=List.mem_map.1 hm
 obtain ⟨j,hj,rfl⟩:=List.getElem_of_mem hp
 exact ⟨j,hj,rfl⟩
end
end Bp
end Go.Proofs.YtdcgdpbgnijnpaaGreat

namespace Go.Proofs.YtdcgdpbgnijnpaaGreat
open Go.RowKit
open V (RowL RowL.alloc RowL.lt RowL.cell RowL.fz RowL.kept)
open Sp (hid wpList_src own_none)
open Sy (alloc_sz)
open Ba (stg lastP pivs leftR leftC wideZ wideM nz facGo facS Fits leftR_iff leftC_iff stg_snoc stg_exact pivs_snoc ext ext_pivs ext_stg)
open Bm (ZI ZI.kept)
namespace Bp
theorem und_zi:Tryz.prog.underlying 23 = some (.slice 37):=by kernel_rfl
theorem info_zi:(Tryz.prog.info? 37).map (fun i => (i.zero,i.size,i.bytes)) = some (some (.agg #[.bool false,.slice none 0 0]),2,32):=by kernel_rfl
theorem zi_nil (a:Addr) (k cap:Nat) (w:World):(binOp BinOp.eql 23 (.slice (some a) k cap) (.slice none 0 0)).run Tryz.prog w = .ok (.bool false) w:=by kernel_rfl
theorem zi_nil0 (k cap:Nat) (w:World):(binOp BinOp.eql 23 (.slice none k cap) (.slice none 0 0)).run Tryz.prog w = .ok (.bool true) w:=by kernel_rfl
def zcells (V:Nat→Bool × Value) (n:Nat):List Value:=(List.range n).flatMap fun j => [.bool (V j).1,(V j).2]
theorem zcells_len (V:Nat→Bool × Value) (n:Nat):(zcells V n).length = n * 2:=by
 induction n with
 | zero => rfl
 | succ n ih => unfold zcells at ih ⊢; rw [List.range_succ,List.flatMap_append,List.length_append,ih]; simp; omega
theorem zcells_at (V:Nat→Bool × Value) {n j:Nat} (hj:j < n):(zcells V n)[j * 2]? = some (.bool (V j).1)∧(zcells V n)[j * 2 + 1]? = some (V j).2:=by
 induction n with
 | zero => omega
 | succ n ih =>
  have hl:=zcells_len V n
  have e:zcells V (n + 1) = zcells V n ++ [.bool (V n).1,(V n).2]:=by unfold zcells; rw [List.range_succ,List.flatMap_append]; simp
  rw [e]
  by_cases h:j < n
  ·
   rw [List.getElem?_append_left (by omega),List.getElem?_append_left (by omega)]
   exact ih h
  ·
   obtain rfl:j = n:=by omega
   rw [List.getElem?_append_right (by omega),List.getElem?_append_right (by omega),hl,Nat.sub_self,show j * 2 + 1 - j * 2 = 1 by omega]
   exact ⟨rfl,rfl⟩
theorem zcells_all (V:Nat→Bool × Value) (n:Nat) {j:Nat} {u:Value} (h:(zcells V n)[j]? = some u):∃ i,i < n∧((j = i * 2∧u = .bool (V i).1) ∨ (j = i * 2 + 1∧u = (V i).2)):=by
 have hj:j < n * 2:=by rw [← zcells_len V n]; exact (List.getElem?_eq_some_iff.1 h).1
 have hd:j = j / 2 * 2 ∨ j = j / 2 * 2 + 1:=by omega
 obtain ⟨h1,h2⟩:=zcells_at V (n:=n) (j:=j / 2) (by omega)
 refine ⟨j / 2,by omega,?_⟩
 rcases hd with e | e
 ·
  rw [← e,h] at h1
  exact .inl ⟨e,Option.some.inj h1⟩
 ·
  rw [← e,h] at h2
  exact .inr ⟨e,Option.some.inj h2⟩
set_option maxRecDepth 100000 in
set_option maxHeartbeats 4000000 in
theorem clonez_any (zs:Nat→Int) (ao:Option Addr) (n cap:Nat) (w:World) (h:IL zs w (.slice ao n cap) n) (hn:n≤1000000) (hnil:ao = none→n = 0) :
  Calls Tryz.prog 63 #[.slice ao n cap] w fun e w' => Kept w w'∧∃ so sc,e = .returned (.slice so n sc)∧SdX (EM w) w.heap.size w' so n sc zs:=by
 cases ao with
 | none =>
  have h0:=hnil rfl
  subst h0
  clear h hnil
  have hz:=zi_nil0 0 cap w
  go_enter Tryz.func63,Tryz.ntmps63
  go_wp2_with fail
  go_ret
  exact ⟨Kept.refl w,none,0,rfl,fun h => absurd h (Nat.lt_irrefl 0)⟩
 | some a =>
  obtain ⟨ao',cap',e,hx⟩:=h
  cases e
  obtain ⟨bb,off,fz⟩:=a
  have hV:∃ V:Nat→Bool × Value,∀ j,j < n→w.cell? ⟨bb,off + j * 2,fz⟩ = some (.bool (V j).1)∧w.cell? ⟨bb,off + j * 2 + 1,fz⟩ = some (V j).2∧(∃ so sk sc,(V j).2 = .slice so sk sc)∧ZI w (V j).1 (V j).2 (zs j)∧bb < w.heap.size∧fz = none:=by
   by_cases h0:0 < n
   ·
    obtain ⟨b',off',e,hb,hc⟩:=hx h0
    cases e
    refine ⟨fun j => if h:j < n then ((hc j h).choose,.slice (hc j h).choose_spec.choose (hc j h).choose_spec.choose_spec.choose (hc j h).choose_spec.choose_spec.choose_spec.choose) else (false,undef),fun j hj => ?_⟩
    simp only [dif_pos hj]
    have hq:=(hc j hj).choose_spec.choose_spec.choose_spec.choose_spec
    exact ⟨hq.1,hq.2.1,⟨_,_,_,rfl⟩,hq.2.2,hb,trivial⟩
   ·
    exact ⟨fun _ => (false,undef),fun j hj => absurd hj (by omega)⟩
  obtain ⟨V,hV⟩:=hV
  have HL:=hid hV
  clear hx hnil hV
  obtain ⟨i0,hi,hz0,hz1,hz2⟩:=info_parts info_zi
  go_enter Tryz.func63,Tryz.ntmps63
  have kE:=(Kept.refl w).alloc (Obj.cells #[] 37)
  have hOE:=own_none 37 2 w w.heap.size (Nat.le_refl _)
  have HE:=hid (And.intro kE hOE)
  clear kE hOE
  have hnil:=zi_nil ⟨bb,off,fz⟩ n cap w
  go_wp2_with (at_builtin; refine wpList_src rfl (.tmp 5) (.tmp 6) 23 rfl w.heap.size 37 i0 (.agg #[.bool false,.slice none 0 0]) 2 32 und_zi hi hz0 hz1 hz2 rfl (by decide) w.heap.size rfl HE.out.2 (some ⟨bb,off,fz⟩) n cap (zcells V n) rfl (zcells_len V n) (fun _ => ⟨_,rfl,fun j u hu => by
   obtain ⟨i,hi,⟨rfl,rfl⟩ | ⟨rfl,rfl⟩⟩:=zcells_all V n hu
   ·
    have ef:=(HL.out i hi).2.2.2.2.2; have hc:=(HL.out i hi).1; have hb:=(HL.out i hi).2.2.2.2.1; rw [ef] at hc ⊢; rw [Sp.addr_add]; exact (HE.out.1.cell (p:=⟨bb,off + (i * 2),none⟩) hb).trans hc
   ·
    have ef:=(HL.out i hi).2.2.2.2.2; have hc:=(HL.out i hi).2.1; have hb:=(HL.out i hi).2.2.2.2.1; rw [ef] at hc ⊢; rw [Sp.addr_add]; exact (HE.out.1.cell (p:=⟨bb,off + (i * 2 + 1),none⟩) hb).trans hc⟩) (fun u hu => by
   obtain ⟨j,hj⟩:=List.mem_iff_getElem?.1 hu
   obtain ⟨i,hi,⟨_,rfl⟩ | ⟨_,rfl⟩⟩:=zcells_all V n hj
   ·
    rfl
   ·
    obtain ⟨so,sk,sc,e⟩:=(HL.out i hi).2.2.1; rw [e]; rfl) (by unfold maxLen; omega) (by omega) (by simp) ?_)
  intro g c w3 hO hgr
  have K3:Kept w w3:=Below.grown HE.out.1 hgr HE.out.1.size (fun i hi => by simp at hi; omega)
  have HN:=hid (And.intro K3 hO)
  clear K3 hO hgr
  go_wp2_with fail
  go_ret
  refine ⟨HN.out.1,some ⟨g,0,none⟩,c,rfl,fun _ => ⟨g,zcells V n,rfl,HN.out.2,fun j hj => ?_⟩⟩
  obtain ⟨_,_,⟨so,sk,sc,e⟩,hz,_,_⟩:=HL.out j hj
  obtain ⟨h1,h2⟩:=zcells_at V hj
  exact ⟨(V j).1,so,sk,sc,h1,by rw [h2,e],.inl (by rw [← e]; exact hz)⟩
end Bp
end Go.Proofs.YtdcgdpbgnijnpaaGreat

namespace Go.Proofs.YtdcgdpbgnijnpaaGreat
open Go.RowKit
open V (RowL RowL.alloc RowL.lt RowL.cell RowL.fz RowL.kept)
open Sp (hid)
open Sy (alloc_sz)
open X (zk zr zl zd region_z)
open Ba (stg lastP pivs leftR leftC wideZ wideM nz facGo facS Fits leftR_iff leftC_iff stg_snoc stg_exact pivs_snoc ext ext_pivs ext_stg)
open Bm (ZI ZI.kept)
namespace Bp
def sdW (n limbs:Nat) (M:Nat→Nat→Int) (b:Nat→Int) (ps:List (Nat × Nat)) (k:Nat):Bool:=anyB (fun j => wideZ limbs (sdF n M b (ps.take k) j)) n
def FwIs (w:World) (n limbs:Nat) (M:Nat→Nat→Int) (b:Nat→Int) (ps:List (Nat × Nat)) (e:Ending) (w':World):Prop :=
 Kept w w'∧(((∃ k,k≤n∧sdW n limbs M b ps k = true)∧e = .returned (.tuple #[.slice none 0 0,.int .i64 13])) ∨
  ((∀ k,k≤n→sdW n limbs M b ps k = false)∧∃ uo uc,e = .returned (.tuple #[.slice uo n uc,.int .i64 0])∧SdX (EM w) w.heap.size w' uo n uc (sdF n M b ps)))
structure FwS (B:Nat) (w wr:World) (fb n limbs:Nat) (sa:Option Addr) (sc:Nat) (Ss:List StC) (M:Nat→Nat→Int) (b:Nat→Int) (ps:List (Nat × Nat)) (uo:Option Addr) (uc k:Nat) (zs:Nat→Int):Prop where
 kept:Kept w wr
 fac:FacR B wr fb n limbs sa n sc Ss M ps
 sd:SdX (EM w) w.heap.size wr uo n uc zs
 no:∀ j,j≤k→sdW n limbs M b ps j = false
theorem FacR.cap {B n m limbs fb:Nat} {w:World} {M:Nat→Nat→Int} {Ss:List StC} {ps:List (Nat × Nat)} {sa:Option Addr} {sc:Nat} (h:FacR B w fb n limbs sa m sc Ss M ps) (h0:0 < Ss.length):m≤sc:=by
 rcases h.sts.own.2 with ⟨_,e⟩ | ⟨g,cap,cur,e,_,_,h4,_⟩
 ·
  omega
 ·
  injection e with _ e1 e2
  omega
theorem sdW_num {n limbs k i:Nat} {M:Nat→Nat→Int} {b:Nat→Int} {ps:List (Nat × Nat)} (h:sdW n limbs M b ps k = false) (hL:limbs≤32) (hi:i < n):(sdF n M b (ps.take k) i).natAbs < W32:=by
 refine not_wide_32 hL ?_
 cases e:wideZ limbs (sdF n M b (ps.take k) i) with
 | false => rfl
 | true => rw [show sdW n limbs M b ps k = true from anyB_ex.2 ⟨i,hi,e⟩] at h; cases h
theorem mid_at {n limbs:Nat} {M:Nat→Nat→Int} {b:Nat→Int} {ps:List (Nat × Nat)} (h:Fits n M ps) (hl:ps.length = n) (hs:facS n limbs M = (ps,0)) (hL:limbs≤32) {k t r c i0:Nat} (hk:k < ps.length) (ht:k + 1 + t < ps.length) (er:r = ps[k].1) (ec:c = ps[k].2) (ei:i0 = ps[k + 1 + t].1) :
  i0 < n∧r < n∧(if i0 < n∧i0 ≠ r then stF n M (ps.take k) i0 c else 0) = stg M (ps.take k) i0 c ∧
  (stg M (ps.take k) r c).natAbs < W32∧(stg M (ps.take k) i0 c).natAbs < W32∧lastP M (ps.take k) ≠ 0 ∧
  sdF n M b (ps.take (k + 1)) i0 * lastP M (ps.take k) = stg M (ps.take k) r c * midF n M b ps k t i0 - stg M (ps.take k) i0 c * midF n M b ps k t r ∧
  (∀ i,midF n M b ps k (t + 1) i = upd (midF n M b ps k t) i0 (sdF n M b (ps.take (k + 1)) i0) i) ∧
  midF n M b ps k t i0 = sdF n M b (ps.take k) i0∧midF n M b ps k t r = sdF n M b (ps.take k) r:=by
 subst er ec ei
 exact mid_step h hl hs hL hk ht
section
variable {B fb n limbs:Nat} {sa:Option Addr} {sc:Nat} {Ss:List StC} {M:Nat→Nat→Int} {b:Nat→Int} {ps:List (Nat × Nat)} {uo:Option Addr} {uc k:Nat} {zs:Nat→Int} {w wr w':World}
theorem FwS.later (h:FwS B w wr fb n limbs sa sc Ss M b ps uo uc k zs) (K:Kept wr w'):FwS B w w' fb n limbs sa sc Ss M b ps uo uc k zs :=
 ⟨h.kept.trans K,h.fac.kept K,h.sd.kept (EM.keeps w) K,h.no⟩
theorem FwS.congr {zs':Nat→Int} (h:FwS B w wr fb n limbs sa sc Ss M b ps uo uc k zs) (e:∀ j,j < n→zs j = zs' j):FwS B w wr fb n limbs sa sc Ss M b ps uo uc k zs' :=
 ⟨h.kept,h.fac,h.sd.congr e,h.no⟩
theorem FwS.put {ug i p8 x cap:Nat} {s:Bool} {ao:Option Addr} {z:Int} {xs:List Value} (h:FwS B w wr fb n limbs sa sc Ss M b ps (some ⟨ug,0,none⟩) uc k zs) (hi:i < n) (hz:ZN w.heap.size wr s (.slice ao x cap) z) (r:RowL 87 wr p8 xs) :
  FwS B w ((wr.setCell ⟨ug,i * 2,none⟩ (.bool s)).setCell ⟨ug,i * 2 + 1,none⟩ (.slice ao x cap)) fb n limbs sa sc Ss M b ps (some ⟨ug,0,none⟩) uc k (upd zs i z)∧RowL 87 ((wr.setCell ⟨ug,i * 2,none⟩ (.bool s)).setCell ⟨ug,i * 2 + 1,none⟩ (.slice ao x cap)) p8 xs:=by
 obtain ⟨h1,kx⟩:=h.sd.put (EM.keeps w) hi (.inr hz)
 have hfr:∀ t,t ≠ 37→Free t (fun k => k = ug) wr:=fun t ht => h.sd.free (by omega) ht
 have hmap:∀ m N f,NumM B wr m N f→¬ m = ug:=fun m N f hm e => by
  obtain ⟨g',xs',e',ho,_⟩:=h.sd (by omega)
  cases e'
  obtain ⟨cur,fr,hb⟩:=own_block ho
  obtain ⟨_,es,clock,hb2,_⟩:=hm
  rw [e,hb] at hb2
  cases hb2
 refine ⟨⟨KX.kept h.kept kx (fun k hk => ?_),h.fac.kx kx (hfr _ (by decide)) (hfr _ (by decide)) (hfr _ (by decide)) (fun S hS => ?_),h1,h.no⟩,RowL_kx r kx (hfr _ (by decide))⟩
 ·
  obtain ⟨g',_,_,_,_,e,hg,_⟩:=h.sd.at (j:=i) hi
  cases e
  rw [hk]; exact hg.1
 ·
  obtain ⟨g,d,m1,m2⟩:=h.fac.sts.mem S hS
  exact ⟨hmap _ _ _ m1,hmap _ _ _ m2⟩
end
set_option maxRecDepth 100000 in
set_option maxHeartbeats 40000000 in
theorem forward_any (B fb n limbs:Nat) (sa:Option Addr) (sc:Nat) (Ss:List StC) (M:Nat→Nat→Int) (b:Nat→Int) (ps:List (Nat × Nat)) (bo:Option Addr) (bc:Nat) (w:World) (h:FacR B w fb n limbs sa n sc Ss M ps) (hf:Fits n M ps) (hl:ps.length = n) (hs:facS n limbs M = (ps,0)) (hL:limbs≤32) (hn:n≤48) (hb:IL b w (.slice bo n bc) n) (hnil:bo = none→n = 0) :
  Calls Tryz.prog 34 #[.pointer (some ⟨fb,0,none⟩),.slice bo n bc] w (FwIs w n limbs M b ps):=by
 obtain ⟨Q,hQ⟩:∃ Q,Q = FwIs w n limbs M b ps:=⟨_,rfl⟩
 rw [← hQ]
 have HQ:=hid hQ
 clear hQ
 have hcl:=clonez_any b bo n bc w hb (by omega) hnil
 have HH:=hid h
 have HF:=hid (And.intro hf (And.intro hl (And.intro hs hL)))
 have hsl:Ss.length = n:=by rw [h.sts.len,hl]
 have HSl:=hid hsl
 clear h hf hl hs hL hb hnil hsl
 go_enter Tryz.func34,Tryz.ntmps34
 --%A
 go_wp2_with fail
 refine hcl.mono ?_
 rintro e w1 ⟨hk,uo,uc,rfl,hS⟩
 have d0:=(HH.out.kept hk).box.cell 0 _
 have hwd:=widel_any b uo n uc limbs w1 (hS.il (EM.zi hk)) (by omega)
 have e0:anyB (fun j => wideZ limbs (b j)) n = sdW n limbs M b ps 0:=by
  unfold sdW
  simp only [List.take_zero,sdF_nil]
 rw [e0] at hwd
 have H1:=hid (And.intro hk hS)
 clear hk hS hcl e0
 cases hw0:sdW n limbs M b ps 0 with
 | true =>
  rw [hw0] at hwd
  have HW:=hid hw0
  clear hw0
  go_wp2_with fail
  refine hwd.mono ?_
  rintro e w2 ⟨hk,rfl⟩
  have HK:=hid (H1.out.1.trans hk)
  clear hk hwd d0
  go_wp2_with fail
  show Q (.returned (.tuple #[.slice none 0 0,.int .i64 13])) w2
  rw [HQ.out]
  exact ⟨HK.out,.inl ⟨⟨0,Nat.zero_le _,HW.out⟩,rfl⟩⟩
 | false =>
  rw [hw0] at hwd
  have HW:=hid hw0
  clear hw0
  go_wp2_with fail
  refine hwd.mono ?_
  rintro e w2 ⟨hk,rfl⟩
  have H2:=hid (show FwS B w w2 fb n limbs sa sc Ss M b ps uo uc 0 (sdF n M b (ps.take 0)) from ⟨H1.out.1.trans hk,HH.out.kept (H1.out.1.trans hk),(H1.out.2.congr fun j hj => by rw [List.take_zero,sdF_nil]).kept (EM.keeps w) hk,fun j hj => by rw [Nat.le_zero.1 hj]; exact HW.out⟩)
  have d1:=H2.out.fac.box.cell 1 _
  clear hk hwd d0
  --%B
  go_wp2_with fail
  go_loopw [25] (fun v25 wr => ∃ k:Nat,k≤n∧v25 = .int .i64 (k:Int)∧Hid (FwS B w wr fb n limbs sa sc Ss M b ps uo uc k (sdF n M b (ps.take k)))) (fun v25 _ => n - (intOf v25).toNat)
  case atStart => exact ⟨0,Nat.zero_le _,rfl,H2.out⟩
  case round =>
   obtain ⟨k,hkn,rfl,H⟩:=hrel
   by_cases hlt:k < n
   ·
    have hltz:(k:Int) < (n:Int):=by omega
    have hk0:(0:Int)≤(k:Int):=by omega
    obtain ⟨g,hg,hglt,hgB,hcl⟩:=H.out.fac.at (j:=k) (by rw [HSl.out]; exact hlt)
    obtain ⟨S,hSd⟩:∃ S,S = Ss[k]'(by rw [HSl.out]; exact hlt):=⟨_,rfl⟩
    rw [← hSd] at hcl
    have hst:=H.out.fac.sts.st k (by rw [HSl.out]; exact hlt) (by rw [HF.out.2.1]; exact hlt)
    rw [← hSd] at hst
    subst hg
    have x0:wr.cell? ⟨g,k * 8,none⟩ = some (.int .i64 (S.r:Int)):=hcl 0 _ rfl
    have x1:=hcl 1 _ rfl
    have x2:=hcl 2 _ rfl
    have x3:=hcl 3 _ rfl
    have x4:=hcl 4 _ rfl
    have x5:=hcl 5 _ rfl
    have x6:=hcl 6 _ rfl
    have x7:=hcl 7 _ rfl
    have HL:=hid (And.intro hlt (And.intro hglt hst))
    have HSd:=hid hSd
    clear hcl hglt hgB hst hSd
    have rP:=RowL.alloc 87 wr S.cells
    have kP:=(Kept.refl wr).alloc (.cells S.cells.toArray 87)
    have hsc:=H.out.fac.cap (by rw [HSl.out]; omega)
    --%C
    go_upto_region 7 with fail
    simp only [StC.cells] at rP kP
    generalize wr.alloc (.cells #[.int .i64 (S.r:Int),.int .i64 (S.c:Int),.bool S.s1,.slice S.o1 S.k1 S.c1,.bool S.s2,.slice S.o2 S.k2 S.c2,.map (some S.ba),.map (some S.bd)] 87) = w3 at rP kP ⊢
    obtain ⟨p8,hp8⟩:∃ p,p = wr.heap.size:=⟨_,rfl⟩
    rw [← hp8] at rP ⊢
    have H3:=hid (And.intro rP (And.intro (show FwS B w w3 fb n limbs (some ⟨g,0,none⟩) sc Ss M b ps uo uc k (sdF n M b (ps.take k)) from ⟨H.out.kept.trans kP,H.out.fac.kept kP,H.out.sd.kept (EM.keeps w) kP,H.out.no⟩) (And.intro hp8 kP)))
    have d1:=H3.out.2.1.fac.box.cell 1 _
    clear rP kP hp8 x0 x1 x2 x3 x4 x5 x6 x7
    have hk1:(0:Int)≤(k:Int) + 1:=by omega
    have hk2:(k:Int) + 1≤(n:Int):=by omega
    --%E
    go_wp2_with fail
    case inl =>
     have hsk:sc = k + 1:=by omega
     subst hsk
     go_loopw [38] (fun v38 wq => ∃ j:Nat,j≤n - (k + 1)∧v38 = .int .i64 (j:Int)∧Hid (RowL 87 wq p8 [.int .i64 (S.r:Int),.int .i64 (S.c:Int),.bool S.s1,.slice S.o1 S.k1 S.c1,.bool S.s2,.slice S.o2 S.k2 S.c2,.map (some S.ba),.map (some S.bd)]∧FwS B w wq fb n limbs (some ⟨g,0,none⟩) (k + 1) Ss M b ps uo uc k (midF n M b ps k j))) (fun v38 _ => n - (k + 1) - (intOf v38).toNat)
     case atStart => exact ⟨0,Nat.zero_le _,rfl,H3.out.1,H3.out.2.1.congr fun j hj => midF_0.symm⟩
     case round =>
      obtain ⟨j,hjn,rfl,J⟩:=hrel
      generalize wr = wq at J ⊢
      obtain rfl:j = 0:=by omega
      have hz0:n - (k + 1) = 0:=by omega
      have hjz:¬ ((0:Nat):Int) < ((n - (k + 1):Nat):Int):=by omega
      have hmid:=J.out.2.congr (zs':=sdF n M b (ps.take (k + 1))) (fun i hi => midF_end HF.out.1 HF.out.2.1 (by rw [HF.out.2.1]; exact HL.out.1) (by rw [HF.out.2.1,hz0]; exact Nat.le_refl _) hi)
      have d0:=hmid.fac.box.cell 0 _
      have hwd:=widel_any (sdF n M b (ps.take (k + 1))) uo n uc limbs wq (hmid.sd.il (EM.zi hmid.kept)) (by omega)
      have HM:=hid hmid
      clear hmid
      cases hw1:sdW n limbs M b ps (k + 1) with
      | true =>
       have hwd:Calls Tryz.prog 64 #[.slice uo n uc,.int .i64 (limbs:Int)] wq fun e w' => Kept wq w'∧e = .returned (.bool true):=by rw [← hw1]; exact hwd
       have HW1:=hid hw1
       clear hw1
       --%G
       go_wp2_with fail
       refine hwd.mono ?_
       rintro e w5 ⟨hk,rfl⟩
       have HK:=hid (HM.out.kept.trans hk)
       clear hk hwd d0
       go_wp2_with fail
       show Q (.returned (.tuple #[.slice none 0 0,.int .i64 13])) w5
       rw [HQ.out]
       exact ⟨HK.out,.inl ⟨⟨k + 1,by have:=HL.out.1; omega,HW1.out⟩,rfl⟩⟩
      | false =>
       have hwd:Calls Tryz.prog 64 #[.slice uo n uc,.int .i64 (limbs:Int)] wq fun e w' => Kept wq w'∧e = .returned (.bool false):=by rw [← hw1]; exact hwd
       have HW1:=hid hw1
       clear hw1
       --%H
       go_wp2_with fail
       refine hwd.mono ?_
       rintro e w5 ⟨hk,rfl⟩
       have HK:=hid (HM.out.later hk)
       clear hk hwd d0
       go_wp2_with fail
       go_roundw
       case rel => exact ⟨k + 1,by have:=HL.out.1; omega,by go_num,HK.out.kept,HK.out.fac,HK.out.sd,fun j hj => by
         by_cases e:j = k + 1
         ·
          rw [e]; exact HW1.out
         ·
          exact HK.out.no j (by omega)⟩
       case measure => show n - ((k:Int) + 1).toNat < n - (k:Int).toNat; have:=HL.out.1; omega
    case inr =>
     go_loopw [38] (fun v38 wq => ∃ j:Nat,j≤n - (k + 1)∧v38 = .int .i64 (j:Int)∧Hid (RowL 87 wq p8 [.int .i64 (S.r:Int),.int .i64 (S.c:Int),.bool S.s1,.slice S.o1 S.k1 S.c1,.bool S.s2,.slice S.o2 S.k2 S.c2,.map (some S.ba),.map (some S.bd)]∧FwS B w wq fb n limbs (some ⟨g,0,none⟩) sc Ss M b ps uo uc k (midF n M b ps k j))) (fun v38 _ => n - (k + 1) - (intOf v38).toNat)
     case atStart => exact ⟨0,Nat.zero_le _,rfl,H3.out.1,H3.out.2.1.congr fun j hj => midF_0.symm⟩
     case round =>
      obtain ⟨j,hjn,rfl,J⟩:=hrel
      generalize wr = wq at J ⊢
      by_cases hj:j < n - (k + 1)
      ·
       skip
       have hjz:(j:Int) < ((n - (k + 1):Nat):Int):=by omega
       have hj0:(0:Int)≤(j:Int):=by omega
       have hkj:k + 1 + j < ps.length:=by rw [HF.out.2.1]; omega
       obtain ⟨g2,hg2,_,_,hcl2⟩:=J.out.2.fac.at (j:=k + 1 + j) (by rw [HSl.out]; omega)
       cases hg2
       obtain ⟨S2,hS2⟩:∃ S2,S2 = Ss[k + 1 + j]'(by rw [HSl.out]; omega):=⟨_,rfl⟩
       rw [← hS2,show (k + 1 + j) * 8 = (k + 1) * 8 + j * 8 by omega] at hcl2
       have hst2:=(J.out.2.fac.sts.st (k + 1 + j) (by rw [HSl.out]; omega) hkj).er
       rw [← hS2] at hst2
       have y0:wq.cell? ⟨g,(k + 1) * 8 + j * 8,none⟩ = some (.int .i64 (S2.r:Int)):=hcl2 0 _ rfl
       have y1:=hcl2 1 _ rfl
       have y2:=hcl2 2 _ rfl
       have y3:=hcl2 3 _ rfl
       have y4:=hcl2 4 _ rfl
       have y5:=hcl2 5 _ rfl
       have y6:=hcl2 6 _ rfl
       have y7:=hcl2 7 _ rfl
       clear hcl2 hS2
       have rT:=RowL.alloc 87 wq S2.cells
       have kT:=(Kept.refl wq).alloc (.cells S2.cells.toArray 87)
       have HJ:=hid (show (j:Int) < ((n - (k + 1):Nat):Int)∧∃ h:k + 1 + j < ps.length,S2.r = (ps[k + 1 + j]'h).1 from ⟨hjz,hkj,hst2⟩)
       clear hkj hst2
       --%I
       go_upto_region 10 with fail
       simp only [StC.cells] at rT kT
       generalize wq.alloc (.cells #[.int .i64 (S2.r:Int),.int .i64 (S2.c:Int),.bool S2.s1,.slice S2.o1 S2.k1 S2.c1,.bool S2.s2,.slice S2.o2 S2.k2 S2.c2,.map (some S2.ba),.map (some S2.bd)] 87) = w4 at rT kT ⊢
       obtain ⟨p10,hp10⟩:∃ p,p = wq.heap.size:=⟨_,rfl⟩
       rw [← hp10] at rT ⊢
       have e0:=rT.cell 0 _
       have J4:=hid (And.intro (J.out.1.kept kT) (J.out.2.later kT))
       clear rT kT hp10 y0 y1 y2 y3 y4 y5 y6 y7
       go_upto_region 11 with fail
       clear e0
       --%J
       have hst:=J4.out.2.fac.sts.st k (by rw [HSl.out]; exact HL.out.1) (by rw [HF.out.2.1]; exact HL.out.1)
       rw [← HSd.out] at hst
       have hms:=mid_at (b:=b) (t:=j) HF.out.1 HF.out.2.1 HF.out.2.2.1 HF.out.2.2.2 (by rw [HF.out.2.1]; exact HL.out.1) HJ.out.2.choose hst.er hst.ec HJ.out.2.choose_spec
       obtain ⟨i1,i2,m1,m2,m3,m4,m5,m6,m7,m8⟩:=hms
       obtain ⟨ug,t1,t2,t3,t4,hug,hugl,v1,v2,v3,hfz⟩:=J4.out.2.sd.at i1
       subst hug
       obtain ⟨ug',u1,u2,u3,u4,hug,_,v4,v5,v6,hfz2⟩:=J4.out.2.sd.at i2
       cases hug
       clear hfz2
       obtain ⟨xv,hxv,hlk⟩:=hst.zd.look2 S2.r
       obtain ⟨z1,z2,z3,z4,rfl,hzx,_⟩:=hxv.zn
       have hzx:ZN B w4 z1 (.slice z2 z3 z4) (stg M (ps.take k) S2.r S.c):=by rw [← m1,hst.er,hst.ec]; exact hzx
       have hp1:ZI w4 S.s1 (.slice S.o1 S.k1 S.c1) (stg M (ps.take k) S.r S.c):=by rw [hst.er,hst.ec]; exact hst.zp.zi
       have b1:=sdW_num (J4.out.2.no k (Nat.le_refl k)) HF.out.2.2.2 i1
       have b2:=sdW_num (J4.out.2.no k (Nat.le_refl k)) HF.out.2.2.2 i2
       rw [← m7] at b1
       rw [← m8] at b2
       obtain ⟨l1,l2,l3⟩:=lim_step m2 b1 m3 b2
       have hcall:=hid (fun (W:World) (K:Kept w4 W) => step_any (S.r:Int) (S.c:Int) S.s1 S.s2 t1 z1 u1 S.o1 S.o2 t2 z2 u2 S.k1 S.c1 S.k2 S.c2 t3 t4 z3 z4 u3 u4 (.map (some S.ba)) (.map (some S.bd)) _ _ _ _ _ _ W (hp1.kept K) (hst.zq.zi.kept K) ((EM.zi J4.out.2.kept _ _ _ v3).kept K) (hzx.zi.kept K) ((EM.zi J4.out.2.kept _ _ _ v6).kept K) l1 l2 l3 m4 m5 ⟨rfl,rfl⟩)
       have sS:=hid (fun (V:World) (K:Kept w4 V) => show (fun w':World => w'.cell? ⟨p8,0,none⟩ = some (.int .i64 (S.r:Int))∧w'.cell? ⟨p8,1,none⟩ = some (.int .i64 (S.c:Int))∧w'.cell? ⟨p8,2,none⟩ = some (.bool S.s1)∧w'.cell? ⟨p8,3,none⟩ = some (.slice S.o1 S.k1 S.c1)∧w'.cell? ⟨p8,4,none⟩ = some (.bool S.s2)∧w'.cell? ⟨p8,5,none⟩ = some (.slice S.o2 S.k2 S.c2)∧w'.cell? ⟨p8,6,none⟩ = some (.map (some S.ba))∧w'.cell? ⟨p8,7,none⟩ = some (.map (some S.bd))∧w'.cell? ⟨ug,S2.r * 2,none⟩ = some (.bool t1)∧w'.cell? ⟨ug,S2.r * 2 + 1,none⟩ = some (.slice t2 t3 t4)∧w'.cell? ⟨ug,S.r * 2,none⟩ = some (.bool u1)∧w'.cell? ⟨ug,S.r * 2 + 1,none⟩ = some (.slice u2 u3 u4)∧(Instr.lookup 85 (.map (some S.bd)) (.int .i64 (S2.r:Int)) false).run Tryz.prog w' = .ok (.agg #[.bool z1,.slice z2 z3 z4]) w') V from ⟨(J4.out.1.kept K).cell 0 _ rfl,(J4.out.1.kept K).cell 1 _ rfl,(J4.out.1.kept K).cell 2 _ rfl,(J4.out.1.kept K).cell 3 _ rfl,(J4.out.1.kept K).cell 4 _ rfl,(J4.out.1.kept K).cell 5 _ rfl,(J4.out.1.kept K).cell 6 _ rfl,(J4.out.1.kept K).cell 7 _ rfl,(K.cell (p:=⟨ug,S2.r * 2,none⟩) hugl.2).trans v1,(K.cell (p:=⟨ug,S2.r * 2 + 1,none⟩) hugl.2).trans v2,(K.cell (p:=⟨ug,S.r * 2,none⟩) hugl.2).trans v4,(K.cell (p:=⟨ug,S.r * 2 + 1,none⟩) hugl.2).trans v5,hlk V (K.block _ hst.zd.lt)⟩)
       have HU:=hid (And.intro hugl (And.intro hfz m6))
       have HI:=hid (And.intro i1 i2)
       have q1:(0:Int)≤(S2.r:Int):=by omega
       have q2:(S2.r:Int) < (n:Int):=by omega
       have q3:(0:Int)≤(S.r:Int):=by omega
       have q4:(S.r:Int) < (n:Int):=by omega
       clear i1 i2 m1 m2 m3 m4 m5 m6 m7 m8 b1 b2 l1 l2 l3 hp1 hzx hxv hlk hst v1 v2 v3 v4 v5 v6 hugl hfz
       have KT:Kept w4 w4.drew:=(Kept.refl _).drew
       refine region_z 18 (S:=fun w' => w'.cell? ⟨p8,0,none⟩ = some (.int .i64 (S.r:Int))∧w'.cell? ⟨p8,1,none⟩ = some (.int .i64 (S.c:Int))∧w'.cell? ⟨p8,2,none⟩ = some (.bool S.s1)∧w'.cell? ⟨p8,3,none⟩ = some (.slice S.o1 S.k1 S.c1)∧w'.cell? ⟨p8,4,none⟩ = some (.bool S.s2)∧w'.cell? ⟨p8,5,none⟩ = some (.slice S.o2 S.k2 S.c2)∧w'.cell? ⟨p8,6,none⟩ = some (.map (some S.ba))∧w'.cell? ⟨p8,7,none⟩ = some (.map (some S.bd))∧w'.cell? ⟨ug,S2.r * 2,none⟩ = some (.bool t1)∧w'.cell? ⟨ug,S2.r * 2 + 1,none⟩ = some (.slice t2 t3 t4)∧w'.cell? ⟨ug,S.r * 2,none⟩ = some (.bool u1)∧w'.cell? ⟨ug,S.r * 2 + 1,none⟩ = some (.slice u2 u3 u4)∧(Instr.lookup 85 (.map (some S.bd)) (.int .i64 (S2.r:Int)) false).run Tryz.prog w' = .ok (.agg #[.bool z1,.slice z2 z3 z4]) w') (by kernel_rfl) (sS.out _ KT) (fun hHeld => ?_)
       generalize w4.drew = Wd at KT hHeld ⊢
       refine zk 0 hHeld ?_
       refine zk 1 hHeld ?_
       refine zk 2 hHeld ?_
       refine zk 3 hHeld ?_
       refine zk 4 hHeld ?_
       refine zk 5 hHeld ?_
       refine zk 6 hHeld ?_
       refine zk 7 hHeld ?_
       refine zk 8 hHeld ?_
       refine zk 9 hHeld ?_
       refine zk 10 hHeld ?_
       refine zk 11 hHeld ?_
       refine zk 12 hHeld ?_
       refine zk 13 hHeld ?_
       refine zk 14 hHeld ?_
       refine zk 15 hHeld ?_
       --%K
       refine zr 16 fun K hK => ?_
       go_simp
       refine (hcall.out Wd KT).mono ?_
       rintro e w5 ⟨hk,s5,o5,k5,c5,rfl,hz5⟩
       refine hK.out _ _ (sS.out _ (KT.trans hk)) (fun hHeld => ?_)
       clear hK K
       have J5:=hid (And.intro (J4.out.1.kept (KT.trans hk)) (And.intro (J4.out.2.later (KT.trans hk)) (hz5.mono (show w.heap.size≤Wd.heap.size from (J4.out.2.kept.trans KT).size))))
       have g1:w5.frozen? ⟨ug,S2.r * 2,none⟩ = false:=((KT.trans hk).frozens ug (S2.r * 2) HU.out.1.2).trans (HU.out.2.1 _)
       have g2:w5.frozen? ⟨ug,S2.r * 2 + 1,none⟩ = false:=((KT.trans hk).frozens ug (S2.r * 2 + 1) HU.out.1.2).trans (HU.out.2.1 _)
       clear hz5 KT hk hcall sS
       --%L
       refine zr 17 fun K hK => ?_
       go_simp
       refine hK.out _ _ hHeld (fun hHeld => ?_)
       clear hK K
       have h9:=hHeld.2.2.2.2.2.2.2.2.1
       have h10:=hHeld.2.2.2.2.2.2.2.2.2.1
       refine zl fun K hK => ?_
       go_simp
       refine hK.out _ _ ?_
       clear hK K hHeld h9 h10
       refine zd ?_
       have hput:=FwS.put J5.out.2.1 HI.out.1 J5.out.2.2 J5.out.1
       generalize (w5.setCell ⟨ug,S2.r * 2,none⟩ (.bool s5)).setCell ⟨ug,S2.r * 2 + 1,none⟩ (.slice o5 k5 c5) = w6 at hput ⊢
       have HP:=hid hput
       clear hput g1 g2
       --%M
       go_wp2_with fail
       go_roundw
       case rel => exact ⟨j + 1,by omega,by go_num,HP.out.2,HP.out.1.congr fun i hi => (HU.out.2.2 i).symm⟩
       case measure => show n - (k + 1) - ((j:Int) + 1).toNat < n - (k + 1) - (j:Int).toNat; omega
      ·
       have hjz:¬ (j:Int) < ((n - (k + 1):Nat):Int):=by omega
       obtain rfl:j = n - (k + 1):=by omega
       have hmid:=J.out.2.congr (zs':=sdF n M b (ps.take (k + 1))) (fun i hi => midF_end HF.out.1 HF.out.2.1 (by rw [HF.out.2.1]; exact HL.out.1) (by rw [HF.out.2.1]; exact Nat.le_refl _) hi)
       have d0:=hmid.fac.box.cell 0 _
       have hwd:=widel_any (sdF n M b (ps.take (k + 1))) uo n uc limbs wq (hmid.sd.il (EM.zi hmid.kept)) (by omega)
       have HM:=hid hmid
       clear hmid
       cases hw1:sdW n limbs M b ps (k + 1) with
       | true =>
        have hwd:Calls Tryz.prog 64 #[.slice uo n uc,.int .i64 (limbs:Int)] wq fun e w' => Kept wq w'∧e = .returned (.bool true):=by rw [← hw1]; exact hwd
        have HW1:=hid hw1
        clear hw1
        --%G
        go_wp2_with fail
        refine hwd.mono ?_
        rintro e w5 ⟨hk,rfl⟩
        have HK:=hid (HM.out.kept.trans hk)
        clear hk hwd d0
        go_wp2_with fail
        show Q (.returned (.tuple #[.slice none 0 0,.int .i64 13])) w5
        rw [HQ.out]
        exact ⟨HK.out,.inl ⟨⟨k + 1,by have:=HL.out.1; omega,HW1.out⟩,rfl⟩⟩
       | false =>
        have hwd:Calls Tryz.prog 64 #[.slice uo n uc,.int .i64 (limbs:Int)] wq fun e w' => Kept wq w'∧e = .returned (.bool false):=by rw [← hw1]; exact hwd
        have HW1:=hid hw1
        clear hw1
        --%H
        go_wp2_with fail
        refine hwd.mono ?_
        rintro e w5 ⟨hk,rfl⟩
        have HK:=hid (HM.out.later hk)
        clear hk hwd d0
        go_wp2_with fail
        go_roundw
        case rel => exact ⟨k + 1,by have:=HL.out.1; omega,by go_num,HK.out.kept,HK.out.fac,HK.out.sd,fun j hj => by
          by_cases e:j = k + 1
          ·
           rw [e]; exact HW1.out
          ·
           exact HK.out.no j (by omega)⟩
        case measure => show n - ((k:Int) + 1).toNat < n - (k:Int).toNat; have:=HL.out.1; omega
   ·
    have hltz:¬ (k:Int) < (n:Int):=by omega
    have hin:k = n:=by omega
    subst hin
    --%D
    go_wp2_with fail
    show Q (.returned (.tuple #[.slice uo k uc,.int .i64 0])) wr
    rw [HQ.out]
    refine ⟨H.out.kept,.inr ⟨H.out.no,uo,uc,rfl,H.out.sd.congr fun j hj => ?_⟩⟩
    rw [List.take_of_length_le (by rw [HF.out.2.1]; exact Nat.le_refl _)]
end Bp
end Go.Proofs.YtdcgdpbgnijnpaaGreat

namespace Go.Proofs.YtdcgdpbgnijnpaaGreat
open Go.RowKit
open V (RowL RowL.alloc RowL.lt RowL.cell RowL.fz RowL.kept)
open Sp (hid)
open Ba (stg lastP pivs wideZ facS Fits)
open Bm (ZI ZI.kept)
namespace Bp
theorem ZN.sign {B:Nat} {w:World} {s:Bool} {v:Value} {z:Int} (h:ZN B w s v z):s = decide (z < 0):=by
 obtain ⟨l,_,h2,rfl⟩:=h
 cases s with
 | false =>
  have:¬ M.int false l < 0:=by unfold M.int; simp
  rw [decide_eq_false this]
 | true =>
  have h0:l ≠ []:=fun e => by have:=h2.zero e; cases this
  have h3:=M.val_pos h2.tr h0
  have h4:M.int true l < 0:=by unfold M.int; simp; omega
  rw [decide_eq_true h4]
theorem SdX.mono {B:Nat} {w:World} {so:Option Addr} {n sc:Nat} {zs:Nat→Int} (h:SdX (EN B) B w so n sc zs) {B':Nat} (hB:B'≤B):SdX (EN B') B' w so n sc zs:=fun h0 => by
 obtain ⟨g,xs,e,ho,hx⟩:=h h0
 refine ⟨g,xs,e,⟨ho.1,ho.2.imp id fun ⟨g,cap,cur,e,hb,r⟩ => ⟨g,cap,cur,e,Nat.le_trans hB hb,r⟩⟩,fun j hj => ?_⟩
 obtain ⟨s,ao,k,cap,x1,x2,x3⟩:=hx j hj
 exact ⟨s,ao,k,cap,x1,x2,ZN.mono x3 hB⟩
section
variable {w W:World} {p:Nat} {xs:List Value}
theorem sol_put (r:RowL 54 W p xs) (a b c:Value):KX (fun k => k = p) W (((W.setCell ⟨p,0,none⟩ a).setCell ⟨p,1,none⟩ b).setCell ⟨p,2,none⟩ c)∧∀ t,t ≠ 54→Free t (fun k => k = p) W:=by
 refine ⟨(((KX.refl W).setCell (T:=fun k => k = p) (p:=⟨p,0,none⟩) (.inl rfl) a).setCell (p:=⟨p,1,none⟩) (.inl rfl) b).setCell (p:=⟨p,2,none⟩) (.inl rfl) c,fun t ht k hk cur fr e => ?_⟩
 subst hk
 obtain ⟨c',h4,_⟩:=r
 rw [h4] at e
 injection e with e
 injection e with _ e2
 exact ht e2.symm
theorem sol_kept (k:Kept w W) (hp:w.heap.size≤p) (r:RowL 54 W p xs) (a b c:Value):Kept w (((W.setCell ⟨p,0,none⟩ a).setCell ⟨p,1,none⟩ b).setCell ⟨p,2,none⟩ c) :=
 KX.kept k (sol_put r a b c).1 fun q hq => by rw [hq]; exact hp
end
def BkIs (w:World) (n limbs:Nat) (X:Nat→Int) (e:Ending) (w':World):Prop :=
 Kept w w'∧(((∃ j,j < n∧wideZ limbs (X j) = true)∧e = .returned (.tuple #[.slice none 0 0,.int .i64 13])) ∨
  ((∀ j,j < n→wideZ limbs (X j) = false)∧∃ xo xc,e = .returned (.tuple #[.slice xo n xc,.int .i64 0])∧SdX (EN w.heap.size) w.heap.size w' xo n xc X))
def solE (code:Int):Ending:=.returned (.tuple #[.agg #[.slice none 0 0,.bool false,.slice none 0 0],.int .i64 code])
def SolIs (w:World) (n m limbs:Nat) (bq:Nat→Bool) (M:Nat→Nat→Int) (b:Nat→Int) (ps:List (Nat × Nat)) (X:Nat→Int) (e:Ending) (w':World):Prop :=
 Kept w w'∧((m ≠ n∧e = solE 5) ∨ (m = n∧anyB (fun j => !bq j) m = true∧e = solE 10) ∨
  (m = n∧anyB (fun j => !bq j) m = false∧(((∃ k,k≤n∧sdW n limbs M b ps k = true)∧e = solE 13) ∨
   ((∀ k,k≤n→sdW n limbs M b ps k = false)∧(((∃ j,j < n∧wideZ limbs (X j) = true)∧e = solE 13) ∨
    ((∀ j,j < n→wideZ limbs (X j) = false)∧∃ xo xc s o k c,e = .returned (.tuple #[.agg #[.slice xo n xc,.bool s,.slice o k c],.int .i64 0]) ∧
     SdX (EN w.heap.size) w.heap.size w' xo n xc (fun j => if lastP M ps < 0 then -X j else X j)∧ZN w.heap.size w' s (.slice o k c) (if lastP M ps < 0 then -lastP M ps else lastP M ps)))))))
set_option maxRecDepth 100000 in
set_option maxHeartbeats 40000000 in
theorem solve_any (B fb n m limbs:Nat) (sa:Option Addr) (sc:Nat) (Ss:List StC) (M:Nat→Nat→Int) (bq:Nat→Bool) (b:Nat→Int) (ps:List (Nat × Nat)) (X:Nat→Int) (bo:Option Addr) (bc:Nat) (w:World) (h:FacR B w fb n limbs sa n sc Ss M ps) (hf:Fits n M ps) (hl:ps.length = n) (hs:facS n limbs M = (ps,0)) (hL:limbs≤32) (hn:n≤48) (hm:m≤1000000) (hq:IsL (ZQ bq) w (.slice bo m bc) m) (hI:(∀ j,j < m→bq j = true)→IL b w (.slice bo m bc) m) (hnil:bo = none→m = 0)
  (hbk:∀ W,Kept w W→∀ uo uc,IL (sdF n M b ps) W (.slice uo n uc) n→(∀ k,k≤n→sdW n limbs M b ps k = false)→Calls Tryz.prog 35 #[.pointer (some ⟨fb,0,none⟩),.slice uo n uc] W (BkIs W n limbs X)) :
  Calls Tryz.prog 13 #[.pointer (some ⟨fb,0,none⟩),.slice bo m bc] w (SolIs w n m limbs bq M b ps X):=by
 obtain ⟨Q,hQ⟩:∃ Q,Q = SolIs w n m limbs bq M b ps X:=⟨_,rfl⟩
 rw [← hQ]
 have HQ:=hid hQ
 clear hQ
 have HH:=hid h
 have HF:=hid (And.intro hf (And.intro hl (And.intro hs hL)))
 have HB:=hid (And.intro hq (And.intro hI hnil))
 have HBk:=hid hbk
 have br:=RowL.alloc 54 w [.slice none 0 0,.bool false,.slice none 0 0]
 have bk:=(Kept.refl w).alloc (.cells #[.slice none 0 0,.bool false,.slice none 0 0] 54)
 clear h hf hl hs hL hq hI hnil hbk
 go_enter Tryz.func13,Tryz.ntmps13
 go_upto_region 1 with fail
 generalize w.alloc (.cells #[.slice none 0 0,.bool false,.slice none 0 0] 54) = w1 at br bk ⊢
 obtain ⟨p4,hp4⟩:∃ p,p = w.heap.size:=⟨_,rfl⟩
 rw [← hp4] at br ⊢
 have HP:=hid (show w.heap.size≤p4 by rw [hp4]; exact Nat.le_refl _)
 have e1:=(HH.out.kept bk).box.cell 1 _
 by_cases hmn:m = n
 rotate_left
 ·
  have hmz:¬ (m:Int) = (n:Int):=by omega
  have HK:=hid bk
  have r4:=br
  clear hp4 bk br
  have d0:=r4.cell 0 _
  have d1:=r4.cell 1 _
  have d2:=r4.cell 2 _
  have f0:=r4.fz 0
  have f1:=r4.fz 1
  have f2:=r4.fz 2
  go_wp2_with fail
  refine bodyPost_ret (v:=.tuple #[.agg #[.slice none 0 0,.bool false,.slice none 0 0],.int .i64 5]) (by simp [results,Tryz.results13,go_sem,d0,d1,d2]) rfl ?_
  rw [HQ.out]
  exact ⟨sol_kept HK.out HP.out r4 _ _ _,.inl ⟨hmn,rfl⟩⟩
 ·
  subst hmn
  have hal:=allr_any bq bo m bc w1 (IsL.kept ZQ.kept HB.out.1 bk) (by omega)
  obtain ⟨ar,har⟩:∃ x,x = anyB (fun j => !bq j) m:=⟨_,rfl⟩
  rw [← har] at hal
  have HA:=hid har
  have HR:=hid (And.intro (fun (W:World) (K:Kept w1 W) => br.kept K) bk)
  clear har br bk hp4
  cases ar with
  | true =>
   --%A
   go_wp2_with fail
   refine hal.mono ?_
   rintro e w2 ⟨hk,rfl⟩
   have K2:=hid hk
   clear hal hk e1
   have r4:=HR.out.1 _ K2.out
   have d0:=r4.cell 0 _
   have d1:=r4.cell 1 _
   have d2:=r4.cell 2 _
   have f0:=r4.fz 0
   have f1:=r4.fz 1
   have f2:=r4.fz 2
   go_wp2_with fail
   refine bodyPost_ret (v:=.tuple #[.agg #[.slice none 0 0,.bool false,.slice none 0 0],.int .i64 10]) (by simp [results,Tryz.results13,go_sem,d0,d1,d2]) rfl ?_
   rw [HQ.out]
   exact ⟨sol_kept (HR.out.2.trans K2.out) HP.out r4 _ _ _,.inr (.inl ⟨rfl,HA.out.symm,rfl⟩)⟩
  | false =>
   --%B
   have hall:∀ j,j < m→bq j = true:=fun j hj => by
    cases e:bq j with
    | true => rfl
    | false => have h9:=HA.out; rw [show anyB (fun j => !bq j) m = true from anyB_ex.2 ⟨j,hj,by rw [e]; rfl⟩] at h9; cases h9
   have hil:=HB.out.2.1 hall
   clear hall
   go_wp2_with fail
   refine hal.mono ?_
   rintro e w2 ⟨hk,rfl⟩
   have K2:=hid hk
   have hfw:=forward_any B fb m limbs sa sc Ss M b ps bo bc w2 (HH.out.kept (HR.out.2.trans hk)) HF.out.1 HF.out.2.1 HF.out.2.2.1 HF.out.2.2.2 hn (il_kept hil (HR.out.2.trans hk)) HB.out.2.2
   clear hal hk e1 hil
   go_wp2_with fail
   refine hfw.mono ?_
   rintro e w3 ⟨hk,⟨hwd,rfl⟩ | ⟨hno,uo,uc,rfl,hS⟩⟩
   ·
    have K3:=hid (K2.out.trans hk)
    have HW:=hid hwd
    clear hk hwd hfw
    have r4:=HR.out.1 _ K3.out
    have d0:=r4.cell 0 _
    have d1:=r4.cell 1 _
    have d2:=r4.cell 2 _
    have f0:=r4.fz 0
    have f1:=r4.fz 1
    have f2:=r4.fz 2
    go_wp2_with fail
    refine bodyPost_ret (v:=.tuple #[.agg #[.slice none 0 0,.bool false,.slice none 0 0],.int .i64 13]) (by simp [results,Tryz.results13,go_sem,d0,d1,d2]) rfl ?_
    rw [HQ.out]
    exact ⟨sol_kept (HR.out.2.trans K3.out) HP.out r4 _ _ _,.inr (.inr ⟨rfl,HA.out.symm,.inl ⟨HW.out,rfl⟩⟩)⟩
   ·
    have K3:=hid (K2.out.trans hk)
    have HW:=hid hno
    have hbk:=HBk.out w3 (HR.out.2.trans K3.out) uo uc (hS.il (EM.zi hk)) hno
    clear hk hno hfw hS
    --%C
    go_wp2_with fail
    refine hbk.mono ?_
    rintro e w4 ⟨hk,⟨hwd,rfl⟩ | ⟨hno,xo,xc,rfl,hX⟩⟩
    ·
     have K4:=hid (K3.out.trans hk)
     have HX:=hid hwd
     clear hk hwd hbk
     have r4:=HR.out.1 _ K4.out
     have d0:=r4.cell 0 _
     have d1:=r4.cell 1 _
     have d2:=r4.cell 2 _
     have f0:=r4.fz 0
     have f1:=r4.fz 1
     have f2:=r4.fz 2
     go_wp2_with fail
     refine bodyPost_ret (v:=.tuple #[.agg #[.slice none 0 0,.bool false,.slice none 0 0],.int .i64 13]) (by simp [results,Tryz.results13,go_sem,d0,d1,d2]) rfl ?_
     rw [HQ.out]
     exact ⟨sol_kept (HR.out.2.trans K4.out) HP.out r4 _ _ _,.inr (.inr ⟨rfl,HA.out.symm,.inr ⟨HW.out,.inl ⟨HX.out,rfl⟩⟩⟩)⟩
    ·
     have K4:=hid (K3.out.trans hk)
     have HX:=hid (And.intro hno (hX.mono K3.out.size))
     have hla:=last_any B fb m limbs sa m sc Ss M ps w4 (HH.out.kept (HR.out.2.trans K4.out)) (Ba.last_ne HF.out.1.piv) (by omega)
     clear hk hno hbk hX
     --%D
     go_wp2_with fail
     refine hla.mono ?_
     rintro e w5 ⟨hk,s,o,k,c,rfl,hz⟩
     have hsg:=hid hz.sign
     have rD:=RowL.alloc 37 w5 [.bool s,.slice o k c]
     have kD:=(Kept.refl w5).alloc (.cells #[.bool s,.slice o k c] 37)
     have H5:=hid (And.intro (K4.out.trans hk) (And.intro (HX.out.2.kept (EN.keeps _) hk) (hz.mono (B':=w1.heap.size) K4.out.size)))
     have HXp:=hid (show ∀ i,i < m→∀ g,xo = some ⟨g,0,none⟩→g < w5.heap.size from fun i hi g e => by
      obtain ⟨g',_,_,_,_,e',hl,_⟩:=HX.out.2.at hi
      rw [e] at e'
      cases e'
      have:=hk.size
      omega)
     clear hla hk hz
     --%E
     go_upto_region 12 with fail
     obtain ⟨p9,hp9⟩:∃ p,p = w5.heap.size:=⟨_,rfl⟩
     rw [← hp9] at rD HXp ⊢
     generalize w5.alloc (.cells #[.bool s,.slice o k c] 37) = w6 at rD kD ⊢
     have K6:=hid (H5.out.1.trans kD)
     have H6:=hid (And.intro (H5.out.2.1.kept (EN.keeps _) kD) (H5.out.2.2.kept kD))
     have x0:=rD.cell 0 _
     have x1:=rD.cell 1 _
     cases s with
     | false =>
      have hd:¬ lastP M ps < 0:=fun e => by have h9:=hsg.out; rw [decide_eq_true e] at h9; cases h9
      have HD:=hid hd
      clear hd hsg kD hp9 rD
      --%F
      have r4:=HR.out.1 _ K6.out
      have d0:=r4.cell 0 _
      have d1:=r4.cell 1 _
      have d2:=r4.cell 2 _
      have f0:=r4.fz 0
      have f1:=r4.fz 1
      have f2:=r4.fz 2
      go_wp2_with fail
      refine bodyPost_ret (v:=.tuple #[.agg #[.slice xo m xc,.bool false,.slice o k c],.int .i64 0]) (by simp [results,Tryz.results13,go_sem,d0,d1,d2]) rfl ?_
      obtain ⟨q1,q2⟩:=sol_put r4 (.slice xo m xc) (.bool false) (.slice o k c)
      rw [HQ.out]
      refine ⟨sol_kept (HR.out.2.trans K6.out) HP.out r4 _ _ _,.inr (.inr ⟨rfl,HA.out.symm,.inr ⟨HW.out,.inr ⟨HX.out.1,xo,xc,false,o,k,c,rfl,?_,?_⟩⟩⟩)⟩
      ·
       refine SdX.mono ?_ HR.out.2.size
       exact (H6.out.1.congr fun j hj => by rw [if_neg (by have:=HD.out; omega)]).kx (EN.keeps _) q1 (q2 _ (by decide)) (q2 _ (by decide))
      ·
       rw [if_neg (by have:=HD.out; omega)]
       exact (H6.out.2.kx q1 (q2 _ (by decide))).mono HR.out.2.size
     | true =>
      have hd:lastP M ps < 0:=Classical.byContradiction fun e => by have h9:=hsg.out; rw [decide_eq_false e] at h9; cases h9
      have HD:=hid (And.intro hd rD)
      clear hd hsg kD hp9 x1 rD
      --%G
      go_wp2_with fail
      go_loopw [54] (fun v54 wr => ∃ i:Nat,i≤m∧v54 = .int .i64 (i:Int)∧Hid (Kept w1 wr∧RowL 37 wr p9 [.bool true,.slice o k c]∧SdX (EN w1.heap.size) w1.heap.size wr xo m xc (fun j => if j < i then -X j else X j)∧ZN w1.heap.size wr true (.slice o k c) (lastP M ps))) (fun v54 _ => m - (intOf v54).toNat)
      case atStart => exact ⟨0,Nat.zero_le _,rfl,K6.out,HD.out.2,H6.out.1.congr fun j hj => by rw [if_neg (Nat.not_lt_zero _)],H6.out.2⟩
      case round =>
       obtain ⟨i,him,rfl,H⟩:=hrel
       by_cases hlt:i < m
       ·
        have hiz:(i:Int) < (m:Int):=by omega
        have hi0:(0:Int)≤(i:Int):=by omega
        obtain ⟨xg,xs,xo',xk,xcap,hxg,hxl,v1,v2,v3,hfz⟩:=H.out.2.2.1.at hlt
        subst hxg
        have hop:=oppo_any xs xo' xk xcap (if i < i then -X i else X i) wr (ZN.zi v3)
        rw [if_neg (Nat.lt_irrefl i)] at hop
        have HXl:=hid (And.intro hxl (And.intro hfz hlt))
        clear hfz hxl v3
        --%H
        go_wp2_with fail
        refine hop.mono ?_
        rintro e w8 ⟨hk,ys,yo,yk,yc,rfl,hy⟩
        have g1:w8.frozen? ⟨xg,i * 2,none⟩ = false:=(hk.frozens xg (i * 2) HXl.out.1.2).trans (HXl.out.2.1 _)
        have g2:w8.frozen? ⟨xg,i * 2 + 1,none⟩ = false:=(hk.frozens xg (i * 2 + 1) HXl.out.1.2).trans (HXl.out.2.1 _)
        have c1:w8.cell? ⟨xg,i * 2,none⟩ = some (.bool xs):=(hk.cells xg (i * 2) HXl.out.1.2).trans v1
        have c2:w8.cell? ⟨xg,i * 2 + 1,none⟩ = some (.slice xo' xk xcap):=(hk.cells xg (i * 2 + 1) HXl.out.1.2).trans v2
        have hyB:ZN w1.heap.size w8 ys (.slice yo yk yc) (-X i):=hy.mono H.out.1.size
        obtain ⟨s1,s2⟩:=(H.out.2.2.1.kept (EN.keeps _) hk).put (EN.keeps _) HXl.out.2.2 hyB
        have hfr:=fun t (ht:t ≠ 37) => (H.out.2.2.1.kept (EN.keeps _) hk).free (t:=t) (by omega) ht
        have hp9':=HXp.out i hlt xg rfl
        have r9:=World.rowIs.of_block (H.out.2.1.kept hk) (s2.block p9 (H.out.2.1.kept hk).lt (by omega))
        have H8:=hid (And.intro (KX.kept (H.out.1.trans hk) s2 (fun q hq => by rw [hq]; exact HXl.out.1.1)) (And.intro r9 (And.intro s1 ((H.out.2.2.2.kept hk).kx s2 (hfr _ (by decide))))))
        clear hy hyB s1 s2 hfr r9 hop hk hp9' v1 v2
        --%I
        go_wp2_with fail
        go_roundw
        case rel => exact ⟨i + 1,by omega,by go_num,H8.out.1,H8.out.2.1,H8.out.2.2.1.congr fun j hj => by
          unfold upd
          by_cases e:j = i
          ·
           subst e; simp
          ·
           simp only [if_neg e]
           by_cases e2:j < i
           ·
            rw [if_pos e2,if_pos (by omega)]
           ·
            rw [if_neg e2,if_neg (by omega)],H8.out.2.2.2⟩
        case measure => show m - ((i:Int) + 1).toNat < m - (i:Int).toNat; omega
       ·
        have hiz:¬ (i:Int) < (m:Int):=by omega
        obtain rfl:i = m:=by omega
        have y0:=H.out.2.1.cell 0 _
        have y1:=H.out.2.1.cell 1 _
        have hop:=oppo_any true o k c (lastP M ps) wr (ZN.zi H.out.2.2.2)
        clear x0
        --%J
        go_wp2_with fail
        refine hop.mono ?_
        rintro e w8 ⟨hk,ys,yo,yk,yc,rfl,hy⟩
        have K8:=hid (H.out.1.trans hk)
        have H8:=hid (And.intro (H.out.2.2.1.kept (EN.keeps _) hk) (hy.mono H.out.1.size))
        clear hop hk hy y0 y1
        have r4:=HR.out.1 _ K8.out
        have d0:=r4.cell 0 _
        have d1:=r4.cell 1 _
        have d2:=r4.cell 2 _
        have f0:=r4.fz 0
        have f1:=r4.fz 1
        have f2:=r4.fz 2
        --%K
        go_wp2_with fail
        refine bodyPost_ret (v:=.tuple #[.agg #[.slice xo i xc,.bool ys,.slice yo yk yc],.int .i64 0]) (by simp [results,Tryz.results13,go_sem,d0,d1,d2]) rfl ?_
        obtain ⟨q1,q2⟩:=sol_put r4 (.slice xo i xc) (.bool ys) (.slice yo yk yc)
        rw [HQ.out]
        refine ⟨sol_kept (HR.out.2.trans K8.out) HP.out r4 _ _ _,.inr (.inr ⟨rfl,HA.out.symm,.inr ⟨HW.out,.inr ⟨HX.out.1,xo,xc,ys,yo,yk,yc,rfl,?_,?_⟩⟩⟩)⟩
        ·
         refine SdX.mono ?_ HR.out.2.size
         exact (H8.out.1.congr fun j hj => by rw [if_pos hj,if_pos HD.out.1]).kx (EN.keeps _) q1 (q2 _ (by decide)) (q2 _ (by decide))
        ·
         rw [if_pos HD.out.1]
         exact (H8.out.2.kx q1 (q2 _ (by decide))).mono HR.out.2.size
end Bp
end Go.Proofs.YtdcgdpbgnijnpaaGreat

namespace Go.Proofs.YtdcgdpbgnijnpaaGreat
open Go.RowKit
open V (RowL RowL.alloc RowL.lt RowL.cell RowL.fz RowL.kept)
open Sp (hid own_kept own_keptK own_apart own_mono own_shape)
open Sy (alloc_sz)
open Ba (stg lastP pivs Fits stg_snoc stg_exact pivs_snoc)
open Bm (ZI ZI.kept)
namespace Bp
def SdO (E:World→Bool→Value→Int→Prop) (B:Nat) (w:World) (v:Value) (n:Nat) (zs:Nat→Int):Prop :=
 ∃ xs,w.ownsRow B 37 2 v n xs∧∀ j,j < n→∃ s ao k cap,xs[j * 2]? = some (.bool s)∧xs[j * 2 + 1]? = some (.slice ao k cap)∧E w s (.slice ao k cap) (zs j)
section
variable {E:World→Bool→Value→Int→Prop} {B:Nat} {w w':World} {v:Value} {n:Nat} {zs:Nat→Int}
theorem SdO.kx {T:Nat→Prop} (h:SdO E B w v n zs) (hE:Keeps E) (k:KX T w w') (h1:Free 40 T w) (h2:Free 37 T w):SdO E B w' v n zs:=by
 obtain ⟨xs,ho,hx⟩:=h
 refine ⟨xs,own_free ho k h2,fun j hj => ?_⟩
 obtain ⟨s,ao,m,cap,x1,x2,x3⟩:=hx j hj
 exact ⟨s,ao,m,cap,x1,x2,hE T w w' s _ _ k h1 x3⟩
theorem SdO.kept (h:SdO E B w v n zs) (hE:Keeps E) (k:Kept w w'):SdO E B w' v n zs:=h.kx hE (T:=fun _ => False) (KX.of k) (fun _ h => h.elim) (fun _ h => h.elim)
theorem SdO.nil (E:World→Bool→Value→Int→Prop) (B:Nat) (w:World) (zs:Nat→Int):SdO E B w (.slice none 0 0) 0 zs:=⟨[],World.ownsRow_nil _ _ _ _,fun _ hj => absurd hj (Nat.not_lt_zero _)⟩
theorem SdO.sdx {so:Option Addr} {sc:Nat} (h:SdO E B w (.slice so n sc) n zs):SdX E B w so n sc zs:=fun h0 => by
 obtain ⟨xs,ho,hx⟩:=h
 have ho':=ho
 rcases ho.2 with ⟨_,e⟩ | ⟨g,cap,cur,e,_⟩
 ·
  omega
 ·
  cases e
  exact ⟨g,xs,rfl,ho',hx⟩
theorem SdO.snoc {W W4:World} {g4 cap4:Nat} {s:Bool} {ao:Option Addr} {k cap:Nat} (h:SdO E B W v n zs) (hE:Keeps E) (xs:List Value) (hx:∀ j,j < n→∃ s ao k cap,xs[j * 2]? = some (.bool s)∧xs[j * 2 + 1]? = some (.slice ao k cap)∧E W s (.slice ao k cap) (zs j)) (hl:xs.length = n * 2)
  (hw:W.ownsRow B 37 2 v n xs) (hz:E W s (.slice ao k cap) (zs n)) (ho:W4.ownsRow B 37 2 (.slice (some ⟨g4,0,none⟩) (n + 1) cap4) (n + 1) (xs ++ [.bool s,.slice ao k cap])) (hg:W.grownBy W4 v.ownBlock):SdO E B W4 (.slice (some ⟨g4,0,none⟩) (n + 1) cap4) (n + 1) zs:=by
 have kx:KX (fun q => v.ownBlock = some q) W W4:=⟨hg.os,hg.tape,hg.output,hg.size,fun q hq hne => hg.block q hq (fun e => hne e.symm)⟩
 have hfr:Free 40 (fun q => v.ownBlock = some q) W:=by
  intro q hq cur fr e
  rcases hw.2 with ⟨rfl,_⟩ | ⟨g,_,_,rfl,_,hg2,_⟩
  ·
   cases hq
  ·
   cases hq
   rw [hg2] at e
   injection e with e
   injection e with _ e2
   exact absurd e2 (by decide)
 refine ⟨_,ho,fun j hj => ?_⟩
 by_cases e:j < n
 ·
  obtain ⟨s',ao',k',cap',x1,x2,x3⟩:=hx j e
  exact ⟨s',ao',k',cap',by rw [List.getElem?_append_left (by omega)]; exact x1,by rw [List.getElem?_append_left (by omega)]; exact x2,hE _ _ _ _ _ _ kx hfr x3⟩
 ·
  obtain rfl:j = n:=by omega
  refine ⟨s,ao,k,cap,?_,?_,hE _ _ _ _ _ _ kx hfr hz⟩
  ·
   rw [List.getElem?_append_right (by omega),hl,Nat.sub_self]; rfl
  ·
   rw [List.getElem?_append_right (by omega),hl,show j * 2 + 1 - j * 2 = 1 by omega]; rfl
end
theorem cell2 (w:World) (t:TypeId) (a b:Value):∀ j u,[a,b][j]? = some u→(w.alloc (.cells #[a,b] t)).cell? ((⟨w.heap.size,0,none⟩:Addr).add j) = some u:=by
 intro j u hu
 have r:=RowL.alloc t w [a,b]
 match j,hu with
 | 0,hu => cases hu; exact r.cell 0 _
 | 1,hu => cases hu; exact r.cell 1 _
def pivF (M:Nat→Nat→Int) (ps:List (Nat × Nat)) (k:Nat):Int:=stg M (ps.take k) (ps.getD k (0,0)).1 (ps.getD k (0,0)).2
end Bp
end Go.Proofs.YtdcgdpbgnijnpaaGreat

namespace Go.Proofs.YtdcgdpbgnijnpaaGreat
open Go.RowKit
open V (RowL RowL.alloc RowL.lt RowL.cell RowL.fz RowL.kept)
open Sp (hid info_i64 und_ints)
open Ba (stg lastP pivs Fits)
open X (zk zr zl zd region_z anyZ_ready AllZ AllZ.cons AllZ.nil)
namespace Bp
theorem ite_want {c:Bool} {A B:Prop} (hc:c = true) (h:A):if c = true then A else B:=by rw [if_pos hc]; exact h
structure OrS (w W:World) (va vb:Value) (ka kb:Nat) (xa xb:List Value) (p7:Nat) (cs:List Value):Prop where
 kept:Kept w W
 oa:W.ownsRow w.heap.size 3 1 va ka xa
 ob:W.ownsRow w.heap.size 3 1 vb kb xb
 ap:∀ g,va.ownBlock = some g→vb.ownBlock ≠ some g
 box:RowL 87 W p7 cs
structure TmS (W:World) (va vb:Value) (t:Nat) (u:Value):Prop where
 row:RowL 3 W t [u]
 na:va.ownBlock ≠ some t
 nb:vb.ownBlock ≠ some t
section
variable {w W W4:World} {va vb u x:Value} {ka kb p7 g4 cap4 t:Nat} {xa xb cs:List Value}
theorem OrS.swap (h:OrS w W va vb ka kb xa xb p7 cs):OrS w W vb va kb ka xb xa p7 cs:=⟨h.kept,h.ob,h.oa,fun g h1 h2 => h.ap g h2 h1,h.box⟩
theorem OrS.alloc (h:OrS w W va vb ka kb xa xb p7 cs) (o:Obj):OrS w (W.alloc o) va vb ka kb xa xb p7 cs:=⟨h.kept.alloc o,World.ownsRow.alloc h.oa o,World.ownsRow.alloc h.ob o,h.ap,h.box.kept ((Kept.refl W).alloc o)⟩
theorem OrS.drew (h:OrS w W va vb ka kb xa xb p7 cs):OrS w W.drew va vb ka kb xa xb p7 cs:=⟨h.kept.drew,World.ownsRow.drew h.oa,World.ownsRow.drew h.ob,h.ap,h.box.kept (Kept.refl W).drew⟩
theorem OrS.tmp (h:OrS w W va vb ka kb xa xb p7 cs) (u:Value):TmS (W.alloc (.cells #[u] 3)) va vb W.heap.size u :=
 ⟨RowL.alloc 3 W [u],fun e => Nat.lt_irrefl _ (World.ownsRow.lt h.oa _ e).2,fun e => Nat.lt_irrefl _ (World.ownsRow.lt h.ob _ e).2⟩
theorem TmS.alloc (h:TmS W va vb t u) (o:Obj):TmS (W.alloc o) va vb t u:=⟨h.row.kept ((Kept.refl W).alloc o),h.na,h.nb⟩
theorem TmS.swap (h:TmS W va vb t u):TmS W vb va t u:=⟨h.row,h.nb,h.na⟩
theorem TmS.news (h:TmS W va vb t u):∀ j y,[u][j]? = some y→W.cell? ((⟨t,0,none⟩:Addr).add j) = some y:=by
 intro j y hy
 match j,hy with
 | 0,hy => cases hy; exact h.row.cell 0 _
theorem OrS.appA (h:OrS w W va vb ka kb xa xb p7 cs) (own:W4.ownsRow w.heap.size 3 1 (.slice (some ⟨g4,0,none⟩) (ka + 1) cap4) (ka + 1) (xa ++ [u])) (hg:W.grownBy W4 va.ownBlock) (hh:va.ownBlock = some g4 ∨ g4 = W.heap.size) :
  OrS w W4 (.slice (some ⟨g4,0,none⟩) (ka + 1) cap4) vb (ka + 1) kb (xa ++ [u]) xb p7 cs:=by
 have kx:KX (fun q => va.ownBlock = some q) W W4:=⟨hg.os,hg.tape,hg.output,hg.size,fun q hq hne => hg.block q hq (fun e => hne e.symm)⟩
 have hfr:Free 87 (fun q => va.ownBlock = some q) W:=by
  intro q hq cur fr e
  rcases h.oa.2 with ⟨rfl,_⟩ | ⟨g,_,_,rfl,_,hg2,_⟩
  ·
   cases hq
  ·
   cases hq
   rw [hg2] at e
   injection e with e
   injection e with _ e2
   exact absurd e2 (by decide)
 refine ⟨KX.kept h.kept kx (fun q hq => (World.ownsRow.lt h.oa q hq).1),own,World.ownsRow.kept h.ob hg ?_,fun g e e2 => ?_,RowL_kx h.box kx hfr⟩
 ·
  cases e:vb.ownBlock with
  | none => exact .inl rfl
  | some g => exact .inr fun e2 => h.ap g e2.symm e
 ·
  have e3:g4 = g:=by injection e
  subst e3
  rcases hh with hh | hh
  ·
   exact h.ap _ hh e2
  ·
   have:=(World.ownsRow.lt h.ob _ e2).2
   omega
theorem OrS.appB (h:OrS w W va vb ka kb xa xb p7 cs) (own:W4.ownsRow w.heap.size 3 1 (.slice (some ⟨g4,0,none⟩) (kb + 1) cap4) (kb + 1) (xb ++ [u])) (hg:W.grownBy W4 vb.ownBlock) (hh:vb.ownBlock = some g4 ∨ g4 = W.heap.size) :
  OrS w W4 va (.slice (some ⟨g4,0,none⟩) (kb + 1) cap4) ka (kb + 1) xa (xb ++ [u]) p7 cs:=(h.swap.appA own hg hh).swap
theorem TmS.appA {n cap:Nat} (h:TmS W va vb t x) (hg:W.grownBy W4 va.ownBlock) (hh:va.ownBlock = some g4 ∨ g4 = W.heap.size):TmS W4 (.slice (some ⟨g4,0,none⟩) n cap) vb t x:=by
 have hlt:=h.row.lt
 refine ⟨World.rowIs.of_block h.row (hg.block t hlt fun e => h.na e.symm),fun e => ?_,h.nb⟩
 have e3:g4 = t:=by injection e
 subst e3
 rcases hh with hh | hh
 ·
  exact h.na hh
 ·
  omega
end
def rowsV (ps:List (Nat × Nat)) (k:Nat):List Value:=(ps.take k).map fun p => .int .i64 (p.1:Int)
def colsV (ps:List (Nat × Nat)) (k:Nat):List Value:=(ps.take k).map fun p => .int .i64 (p.2:Int)
set_option maxRecDepth 100000 in
set_option maxHeartbeats 40000000 in
theorem order_any (B fb n limbs:Nat) (sa:Option Addr) (sk sc:Nat) (Ss:List StC) (M:Nat→Nat→Int) (ps:List (Nat × Nat)) (w:World) (h:FacR B w fb n limbs sa sk sc Ss M ps) (hn:sk≤48) :
  Calls Tryz.prog 9 #[.pointer (some ⟨fb,0,none⟩)] w fun e w' => Kept w w'∧∃ va vb,e = .returned (.tuple #[va,vb])∧w'.ownsRow w.heap.size 3 1 va sk (rowsV ps sk)∧w'.ownsRow w.heap.size 3 1 vb sk (colsV ps sk)∧∀ g,va.ownBlock = some g→vb.ownBlock ≠ some g:=by
 have hsk:=h.len
 have hsl:=h.sts.len
 have HH:=hid (And.intro h (And.intro hsk hsl))
 have d1:=h.box.cell 1 _
 clear h hsk hsl
 obtain ⟨i0,hi,hz0,hz1,hz2⟩:=info_parts info_i64
 go_enter Tryz.func9,Tryz.ntmps9
 go_wp2_with fail
 go_loopw [4,5,13] (fun v4 v5 v13 wr => ∃ (k:Nat) (va vb:Value),k≤sk∧v4 = va∧v5 = vb∧v13 = .int .i64 (k:Int)∧Hid (Kept w wr∧wr.ownsRow w.heap.size 3 1 va k (rowsV ps k)∧wr.ownsRow w.heap.size 3 1 vb k (colsV ps k)∧∀ g,va.ownBlock = some g→vb.ownBlock ≠ some g)) (fun _ _ v13 _ => sk - (intOf v13).toNat)
 case atStart => exact ⟨0,_,_,Nat.zero_le _,rfl,rfl,rfl,Kept.refl _,World.ownsRow_nil _ _ _ _,World.ownsRow_nil _ _ _ _,fun g e => by cases e⟩
 case round =>
  obtain ⟨k,va,vb,hkn,e4,e5,rfl,H⟩:=hrel
  subst e4 e5
  by_cases hlt:k < sk
  ·
   have hltz:(k:Int) < (sk:Int):=by omega
   have hk0:(0:Int)≤(k:Int):=by omega
   have hF:=HH.out.1.kept H.out.1
   obtain ⟨g,hg,_,_,hcl⟩:=hF.at (j:=k) (by have:=HH.out.2; omega)
   obtain ⟨S,hSd⟩:∃ S,S = Ss[k]'(by have:=HH.out.2; omega):=⟨_,rfl⟩
   rw [← hSd] at hcl
   have hkp:k < ps.length:=by have:=HH.out.2; omega
   have hst:=hF.sts.st k (by have:=HH.out.2; omega) hkp
   rw [← hSd] at hst
   have HXs:=hid (show rowsV ps (k + 1) = rowsV ps k ++ [.int .i64 (S.r:Int)]∧colsV ps (k + 1) = colsV ps k ++ [.int .i64 (S.c:Int)] by
    unfold rowsV colsV
    rw [take_snoc hkp,List.map_append,List.map_append,hst.er,hst.ec]
    exact ⟨rfl,rfl⟩)
   clear hst hkp
   subst hg
   have x0:wr.cell? ⟨g,k * 8,none⟩ = some (.int .i64 (S.r:Int)):=hcl 0 _ rfl
   have x1:=hcl 1 _ rfl
   have x2:=hcl 2 _ rfl
   have x3:=hcl 3 _ rfl
   have x4:=hcl 4 _ rfl
   have x5:=hcl 5 _ rfl
   have x6:=hcl 6 _ rfl
   have x7:=hcl 7 _ rfl
   have rP:=RowL.alloc 87 wr S.cells
   have kP:=(Kept.refl wr).alloc (.cells S.cells.toArray 87)
   obtain ⟨xa,hxa⟩:∃ l,l = rowsV ps k:=⟨_,rfl⟩
   obtain ⟨xb,hxb⟩:∃ l,l = colsV ps k:=⟨_,rfl⟩
   rw [← hxa,← hxb] at H HXs
   clear hcl hF hSd hxa hxb
   --%A
   go_upto_region 5 with fail
   simp only [StC.cells] at rP kP
   have hO:OrS w (wr.alloc (.cells #[.int .i64 (S.r:Int),.int .i64 (S.c:Int),.bool S.s1,.slice S.o1 S.k1 S.c1,.bool S.s2,.slice S.o2 S.k2 S.c2,.map (some S.ba),.map (some S.bd)] 87)) u4 u5 k k xa xb wr.heap.size [.int .i64 (S.r:Int),.int .i64 (S.c:Int),.bool S.s1,.slice S.o1 S.k1 S.c1,.bool S.s2,.slice S.o2 S.k2 S.c2,.map (some S.ba),.map (some S.bd)]:=⟨H.out.1.trans kP,World.ownsRow.alloc H.out.2.1 _,World.ownsRow.alloc H.out.2.2.1 _,H.out.2.2.2,rP⟩
   clear rP kP x0 x1 x2 x3 x4 x5 x6 x7
   obtain ⟨p7,hp7⟩:∃ p,p = wr.heap.size:=⟨_,rfl⟩
   rw [← hp7] at hO ⊢
   clear hp7
   generalize wr.alloc (.cells #[.int .i64 (S.r:Int),.int .i64 (S.c:Int),.bool S.s1,.slice S.o1 S.k1 S.c1,.bool S.s2,.slice S.o2 S.k2 S.c2,.map (some S.ba),.map (some S.bd)] 87) = w3 at hO ⊢
   have sS:=hid (fun (V:World) (va vb:Value) (ka kb:Nat) (xa xb:List Value) (h:OrS w V va vb ka kb xa xb p7 [.int .i64 (S.r:Int),.int .i64 (S.c:Int),.bool S.s1,.slice S.o1 S.k1 S.c1,.bool S.s2,.slice S.o2 S.k2 S.c2,.map (some S.ba),.map (some S.bd)]) => show (fun w':World => w'.cell? ⟨p7,0,none⟩ = some (.int .i64 (S.r:Int))∧w'.cell? ⟨p7,1,none⟩ = some (.int .i64 (S.c:Int))) V from ⟨h.box.cell 0 _ rfl,h.box.cell 1 _ rfl⟩)
   have hO:=hO.drew
   refine region_z 11 (S:=fun w' => w'.cell? ⟨p7,0,none⟩ = some (.int .i64 (S.r:Int))∧w'.cell? ⟨p7,1,none⟩ = some (.int .i64 (S.c:Int))) (by kernel_rfl) (sS.out _ _ _ _ _ _ _ hO) (fun hHeld => ?_)
   generalize w3.drew = Wd at hO hHeld ⊢
   refine zk 0 hHeld ?_
   refine zk 1 hHeld ?_
   refine zk 2 hHeld ?_
   refine zk 5 hHeld ?_
   refine zk 6 hHeld ?_
   refine zk 7 hHeld ?_
   --%B
   refine anyZ_ready (rs:=[3,8]) (by kernel_rfl) (by simp) ?_
   refine AllZ.cons rfl (fun K hK => ?_) (AllZ.cons rfl (fun K hK => ?_) AllZ.nil)
   ·
    refine ite_want (by kernel_rfl) ?_
    go_simp
    have hTA:=hO.tmp (.int .i64 (S.r:Int))
    have hO':=hO.alloc (.cells #[.int .i64 (S.r:Int)] 3)
    refine hK.out _ _ (sS.out _ _ _ _ _ _ _ hO') (fun hHeld => ?_)
    clear hK K hO
    have hO:=hO'
    clear hO'
    obtain ⟨tA,htA⟩:∃ p,p = Wd.heap.size:=⟨_,rfl⟩
    rw [← htA] at hTA ⊢
    clear htA
    generalize Wd.alloc (.cells #[.int .i64 (S.r:Int)] 3) = Wa at hO hTA hHeld ⊢
    refine anyZ_ready (rs:=[4,8]) (by kernel_rfl) (by simp) ?_
    refine AllZ.cons rfl (fun K hK => ?_) (AllZ.cons rfl (fun K hK => ?_) AllZ.nil)
    ·
     refine ite_want (by kernel_rfl) ?_
     refine wp_append_lies _ (.tmp 17) (.tmp 20) 41 rfl w.heap.size 3 i0 (.int .i64 0) 1 8 und_ints hi hz0 hz1 hz2 rfl (by decide) u4 k xa rfl hO.oa ⟨tA,0,none⟩ 1 1 [.int .i64 (S.r:Int)] rfl rfl hTA.news (by simp [Value.oneCell']) (by omega) (by unfold maxLen; omega) (by omega) hO.kept.size _ rfl ?_
     intro gA capA Wb ownA hgA hhA _
     have hO':=hO.appA ownA hgA hhA
     refine hK.out _ _ (sS.out _ _ _ _ _ _ _ hO') (fun hHeld => ?_)
     clear hK K hO hTA ownA hgA hhA
     have hO:=hO'
     clear hO'
     refine zr 8 fun K hK => ?_
     go_simp
     have hTB:=hO.tmp (.int .i64 (S.c:Int))
     have hO':=hO.alloc (.cells #[.int .i64 (S.c:Int)] 3)
     refine hK.out _ _ (sS.out _ _ _ _ _ _ _ hO') (fun hHeld => ?_)
     clear hK K hO
     have hO:=hO'
     clear hO'
     obtain ⟨tB,htB⟩:∃ p,p = Wb.heap.size:=⟨_,rfl⟩
     rw [← htB] at hTB ⊢
     clear htB
     generalize Wb.alloc (.cells #[.int .i64 (S.c:Int)] 3) = Wc at hO hTB hHeld ⊢
     refine zr 9 fun K hK => ?_
     refine wp_append_lies _ (.tmp 22) (.tmp 25) 41 rfl w.heap.size 3 i0 (.int .i64 0) 1 8 und_ints hi hz0 hz1 hz2 rfl (by decide) u5 k xb rfl hO.ob ⟨tB,0,none⟩ 1 1 [.int .i64 (S.c:Int)] rfl rfl hTB.news (by simp [Value.oneCell']) (by omega) (by unfold maxLen; omega) (by omega) hO.kept.size _ rfl ?_
     intro gB capB We ownB hgB hhB _
     have hO':=hO.appB ownB hgB hhB
     refine hK.out _ _ (sS.out _ _ _ _ _ _ _ hO') (fun hHeld => ?_)
     clear hK K hO hTB ownB hgB hhB
     have hO:=hO'
     clear hO'
     refine zr 10 fun K hK => ?_
     go_simp
     refine hK.out _ _ hHeld (fun hHeld => ?_)
     clear hK K
     refine zl fun K hK => ?_
     go_simp
     refine hK.out _ _ ?_
     clear hK K hHeld
     refine zd ?_
     have HN:=hid hO
     clear hO
     go_wp2_with fail
     go_roundw
     case rel => exact ⟨k + 1,_,_,by omega,rfl,rfl,by go_num,HN.out.kept,by rw [HXs.out.1]; exact HN.out.oa,by rw [HXs.out.2]; exact HN.out.ob,HN.out.ap⟩
     case measure => show sk - ((k:Int) + 1).toNat < sk - (k:Int).toNat; omega
    ·
     refine ite_want (by kernel_rfl) ?_
     go_simp
     have hTB:=hO.tmp (.int .i64 (S.c:Int))
     have hO':=hO.alloc (.cells #[.int .i64 (S.c:Int)] 3)
     have hTA:=hTA.alloc (.cells #[.int .i64 (S.c:Int)] 3)
     refine hK.out _ _ (sS.out _ _ _ _ _ _ _ hO') (fun hHeld => ?_)
     clear hK K hO
     have hO:=hO'
     clear hO'
     obtain ⟨tB,htB⟩:∃ p,p = Wa.heap.size:=⟨_,rfl⟩
     rw [← htB] at hTB ⊢
     clear htB
     generalize Wa.alloc (.cells #[.int .i64 (S.c:Int)] 3) = Wb at hO hTB hTA hHeld ⊢
     refine zr 4 fun K hK => ?_
     refine wp_append_lies _ (.tmp 17) (.tmp 20) 41 rfl w.heap.size 3 i0 (.int .i64 0) 1 8 und_ints hi hz0 hz1 hz2 rfl (by decide) u4 k xa rfl hO.oa ⟨tA,0,none⟩ 1 1 [.int .i64 (S.r:Int)] rfl rfl hTA.news (by simp [Value.oneCell']) (by omega) (by unfold maxLen; omega) (by omega) hO.kept.size _ rfl ?_
     intro gA capA Wc ownA hgA hhA _
     have hTB:=hTB.appA hgA hhA (n:=k + 1) (cap:=capA)
     have hO':=hO.appA ownA hgA hhA
     refine hK.out _ _ (sS.out _ _ _ _ _ _ _ hO') (fun hHeld => ?_)
     clear hK K hO hTA ownA hgA hhA
     have hO:=hO'
     clear hO'
     refine zr 9 fun K hK => ?_
     refine wp_append_lies _ (.tmp 22) (.tmp 25) 41 rfl w.heap.size 3 i0 (.int .i64 0) 1 8 und_ints hi hz0 hz1 hz2 rfl (by decide) u5 k xb rfl hO.ob ⟨tB,0,none⟩ 1 1 [.int .i64 (S.c:Int)] rfl rfl hTB.news (by simp [Value.oneCell']) (by omega) (by unfold maxLen; omega) (by omega) hO.kept.size _ rfl ?_
     intro gB capB We ownB hgB hhB _
     have hO':=hO.appB ownB hgB hhB
     refine hK.out _ _ (sS.out _ _ _ _ _ _ _ hO') (fun hHeld => ?_)
     clear hK K hO hTB ownB hgB hhB
     have hO:=hO'
     clear hO'
     refine zr 10 fun K hK => ?_
     go_simp
     refine hK.out _ _ hHeld (fun hHeld => ?_)
     clear hK K
     refine zl fun K hK => ?_
     go_simp
     refine hK.out _ _ ?_
     clear hK K hHeld
     refine zd ?_
     have HN:=hid hO
     clear hO
     go_wp2_with fail
     go_roundw
     case rel => exact ⟨k + 1,_,_,by omega,rfl,rfl,by go_num,HN.out.kept,by rw [HXs.out.1]; exact HN.out.oa,by rw [HXs.out.2]; exact HN.out.ob,HN.out.ap⟩
     case measure => show sk - ((k:Int) + 1).toNat < sk - (k:Int).toNat; omega
   ·
    refine ite_want (by kernel_rfl) ?_
    go_simp
    have hTB:=hO.tmp (.int .i64 (S.c:Int))
    have hO':=hO.alloc (.cells #[.int .i64 (S.c:Int)] 3)
    refine hK.out _ _ (sS.out _ _ _ _ _ _ _ hO') (fun hHeld => ?_)
    clear hK K hO
    have hO:=hO'
    clear hO'
    obtain ⟨tB,htB⟩:∃ p,p = Wd.heap.size:=⟨_,rfl⟩
    rw [← htB] at hTB ⊢
    clear htB
    generalize Wd.alloc (.cells #[.int .i64 (S.c:Int)] 3) = Wa at hO hTB hHeld ⊢
    refine zr 3 fun K hK => ?_
    go_simp
    have hTA:=hO.tmp (.int .i64 (S.r:Int))
    have hO':=hO.alloc (.cells #[.int .i64 (S.r:Int)] 3)
    have hTB:=hTB.alloc (.cells #[.int .i64 (S.r:Int)] 3)
    refine hK.out _ _ (sS.out _ _ _ _ _ _ _ hO') (fun hHeld => ?_)
    clear hK K hO
    have hO:=hO'
    clear hO'
    obtain ⟨tA,htA⟩:∃ p,p = Wa.heap.size:=⟨_,rfl⟩
    rw [← htA] at hTA ⊢
    clear htA
    generalize Wa.alloc (.cells #[.int .i64 (S.r:Int)] 3) = Wb at hO hTA hTB hHeld ⊢
    refine zr 4 fun K hK => ?_
    refine wp_append_lies _ (.tmp 17) (.tmp 20) 41 rfl w.heap.size 3 i0 (.int .i64 0) 1 8 und_ints hi hz0 hz1 hz2 rfl (by decide) u4 k xa rfl hO.oa ⟨tA,0,none⟩ 1 1 [.int .i64 (S.r:Int)] rfl rfl hTA.news (by simp [Value.oneCell']) (by omega) (by unfold maxLen; omega) (by omega) hO.kept.size _ rfl ?_
    intro gA capA Wc ownA hgA hhA _
    have hTB:=hTB.appA hgA hhA (n:=k + 1) (cap:=capA)
    have hO':=hO.appA ownA hgA hhA
    refine hK.out _ _ (sS.out _ _ _ _ _ _ _ hO') (fun hHeld => ?_)
    clear hK K hO hTA ownA hgA hhA
    have hO:=hO'
    clear hO'
    refine zr 9 fun K hK => ?_
    refine wp_append_lies _ (.tmp 22) (.tmp 25) 41 rfl w.heap.size 3 i0 (.int .i64 0) 1 8 und_ints hi hz0 hz1 hz2 rfl (by decide) u5 k xb rfl hO.ob ⟨tB,0,none⟩ 1 1 [.int .i64 (S.c:Int)] rfl rfl hTB.news (by simp [Value.oneCell']) (by omega) (by unfold maxLen; omega) (by omega) hO.kept.size _ rfl ?_
    intro gB capB We ownB hgB hhB _
    have hO':=hO.appB ownB hgB hhB
    refine hK.out _ _ (sS.out _ _ _ _ _ _ _ hO') (fun hHeld => ?_)
    clear hK K hO hTB ownB hgB hhB
    have hO:=hO'
    clear hO'
    refine zr 10 fun K hK => ?_
    go_simp
    refine hK.out _ _ hHeld (fun hHeld => ?_)
    clear hK K
    refine zl fun K hK => ?_
    go_simp
    refine hK.out _ _ ?_
    clear hK K hHeld
    refine zd ?_
    have HN:=hid hO
    clear hO
    go_wp2_with fail
    go_roundw
    case rel => exact ⟨k + 1,_,_,by omega,rfl,rfl,by go_num,HN.out.kept,by rw [HXs.out.1]; exact HN.out.oa,by rw [HXs.out.2]; exact HN.out.ob,HN.out.ap⟩
    case measure => show sk - ((k:Int) + 1).toNat < sk - (k:Int).toNat; omega
  ·
   have hltz:¬ (k:Int) < (sk:Int):=by omega
   obtain rfl:k = sk:=by omega
   --%D
   go_wp2_with fail
   go_ret2
   exact ⟨H.out.1,_,_,rfl,H.out.2⟩
end Bp
end Go.Proofs.YtdcgdpbgnijnpaaGreat

namespace Go.Proofs.YtdcgdpbgnijnpaaGreat
open Go.RowKit
open V (RowL RowL.alloc RowL.lt RowL.cell RowL.fz RowL.kept)
open Sp (hid)
namespace Bp
def oddAt (f:Nat→Nat) (k:Nat):Nat→Bool
 | 0 => false
 | t + 1 => xor (oddAt f k t) (decide (f k < f t))
def oddTo (f:Nat→Nat):Nat→Bool
 | 0 => false
 | k + 1 => xor (oddTo f k) (oddAt f k k)
def IxR (w:World) (ao:Option Addr) (n:Nat) (f:Nat→Nat):Prop:=0 < n→∃ b off:Nat,ao = some ⟨b,off,none⟩∧b < w.heap.size∧∀ j,j < n→w.cell? ⟨b,off + j,none⟩ = some (.int .i64 (f j:Int))
set_option maxRecDepth 100000 in
set_option maxHeartbeats 8000000 in
theorem odd_any (ao:Option Addr) (n c:Nat) (f:Nat→Nat) (w:World) (h:IxR w ao n f) (hn:n≤1000) (hc:n≤c) :
  Calls Tryz.prog 43 #[.slice ao n c] w fun e w' => w' = w∧e = .returned (.bool (oddTo f n)):=by
 go_enter Tryz.func43,Tryz.ntmps43
 go_wp2
 go_loopw [3,10] (fun v3 v10 wr => ∃ k:Nat,k≤n∧v3 = .bool (oddTo f k)∧v10 = .int .i64 (k:Int)∧Hid (wr = w)) (fun _ v10 _ => n - (intOf v10).toNat)
 case atStart => exact ⟨0,Nat.zero_le _,rfl,rfl,rfl⟩
 case round =>
  obtain ⟨k,hkn,rfl,rfl,H⟩:=hrel
  by_cases hlt:k < n
  ·
   have hltz:(k:Int) < (n:Int):=by omega
   have hk0:(0:Int)≤(k:Int):=by omega
   have hkc:(k:Int)≤(c:Int):=by omega
   obtain ⟨b,off,rfl,hb,hx⟩:=h (by omega)
   have hw:=H.out
   subst hw
   have x0:=hx k hlt
   have HX:=hid hx
   clear h hx
   --%A
   go_wp2_with fail
   go_loopw [3,19] (fun v3 v19 wq => ∃ j:Nat,j≤k∧v3 = .bool (xor (oddTo f k) (oddAt f k j))∧v19 = .int .i64 (j:Int)∧Hid (wq = wr)) (fun _ v19 _ => k - (intOf v19).toNat)
   case atStart => exact ⟨0,Nat.zero_le _,by simp [oddAt],rfl,rfl⟩
   case round =>
    obtain ⟨j,hjk,rfl,rfl,J⟩:=hrel
    have hw:=J.out
    subst hw
    by_cases hj:j < k
    ·
     have hjz:(j:Int) < (k:Int):=by omega
     have hj0:(0:Int)≤(j:Int):=by omega
     have y0:=HX.out j (by omega)
     by_cases hg:f k < f j
     ·
      have hgz:(f j:Int) > (f k:Int):=by omega
      have hgy:(f k:Int) < (f j:Int):=by omega
      go_wp2_with fail
      go_roundw
      case rel => exact ⟨j + 1,by omega,by simp [oddAt,hg],by go_num,trivial⟩
      case measure => show k - ((j:Int) + 1).toNat < k - (j:Int).toNat; omega
     ·
      have hgz:¬ (f j:Int) > (f k:Int):=by omega
      have hgy:¬ (f k:Int) < (f j:Int):=by omega
      go_wp2_with fail
      go_roundw
      case rel => exact ⟨j + 1,by omega,by simp [oddAt,hg],by go_num,trivial⟩
      case measure => show k - ((j:Int) + 1).toNat < k - (j:Int).toNat; omega
    ·
     have hjz:¬ (j:Int) < (k:Int):=by omega
     obtain rfl:j = k:=by omega
     go_wp2_with fail
     go_roundw
     case rel => exact ⟨j + 1,by omega,rfl,by go_num,trivial⟩
     case measure => show n - ((j:Int) + 1).toNat < n - (j:Int).toNat; omega
  ·
   have hltz:¬ (k:Int) < (n:Int):=by omega
   obtain rfl:k = n:=by omega
   have hw:=H.out
   subst hw
   go_wp2_with fail
   go_ret
   exact ⟨rfl,rfl⟩
end Bp
end Go.Proofs.YtdcgdpbgnijnpaaGreat

namespace Go.Proofs.YtdcgdpbgnijnpaaGreat
open Go.RowKit
open V (RowL RowL.alloc RowL.lt RowL.cell RowL.fz RowL.kept)
open Sp (hid)
open Ba (stg lastP pivs Fits)
open Bm (ZI ZI.kept)
namespace Bp
theorem own_ix {B n:Nat} {w:World} {v:Value} {ps:List (Nat × Nat)} (q:Nat × Nat→Nat) (h:w.ownsRow B 3 1 v n ((ps.take n).map fun p => .int .i64 (q p:Int))) (hn:n = ps.length):∃ ao c,v = .slice ao n c∧n≤c∧IxR w ao n (fun k => q (ps.getD k (0,0))):=by
 have h':=h
 rcases h.2 with ⟨rfl,h0⟩ | ⟨g,cap,cur,rfl,h1,h2,h3,_⟩
 ·
  exact ⟨none,0,by rw [h0],by omega,fun hp => by omega⟩
 ·
  refine ⟨_,_,rfl,h3,fun hp => ⟨g,0,rfl,(World.ownsRow.lt h' g rfl).2,fun j hj => ?_⟩⟩
  rw [Nat.zero_add,h'.cellAt j (by omega),List.getElem?_map,List.getElem?_take_of_lt hj,List.getElem?_eq_getElem (by omega)]
  show some (Value.int .i64 (q ps[j]:Int)) = some (.int .i64 (q (ps.getD j (0,0)):Int))
  rw [List.getD_eq_getElem?_getD,List.getElem?_eq_getElem (by omega)]
  rfl
def detP (M:Nat→Nat→Int) (ps:List (Nat × Nat)) (n:Nat):Int:=if oddTo (fun k => (ps.getD k (0,0)).1) n = oddTo (fun k => (ps.getD k (0,0)).2) n then lastP M ps else -lastP M ps
set_option maxRecDepth 100000 in
set_option maxHeartbeats 16000000 in
theorem det_any (B fb n limbs:Nat) (sa:Option Addr) (sk sc:Nat) (Ss:List StC) (M:Nat→Nat→Int) (ps:List (Nat × Nat)) (w:World) (h:FacR B w fb n limbs sa sk sc Ss M ps) (hne:lastP M ps ≠ 0) (hn:sk≤48) :
  Calls Tryz.prog 18 #[.pointer (some ⟨fb,0,none⟩)] w (TellsZ w (detP M ps sk)):=by
 obtain ⟨z,hz0⟩:∃ z,z = detP M ps sk:=⟨_,rfl⟩
 rw [← hz0]
 have HZ0:=hid hz0
 clear hz0
 have hsk:=h.len
 have HH:=hid (And.intro h (And.intro hne hsk))
 have br:=RowL.alloc 37 w [.bool false,.slice none 0 0]
 have bk:=(Kept.refl w).alloc (.cells #[.bool false,.slice none 0 0] 37)
 clear h hne hsk
 go_enter Tryz.func18,Tryz.ntmps18
 go_upto_region 1 with fail
 generalize w.alloc (.cells #[.bool false,.slice none 0 0] 37) = w1 at br bk ⊢
 obtain ⟨p2,hp2⟩:∃ p,p = w.heap.size:=⟨_,rfl⟩
 rw [← hp2] at br ⊢
 have ho:=order_any B fb n limbs sa sk sc Ss M ps w1 (HH.out.1.kept bk) hn
 have H1:=hid (And.intro br (And.intro bk hp2))
 clear br bk hp2
 --%A
 go_wp2_with fail
 refine ho.mono ?_
 rintro e w2 ⟨hk,va,vb,rfl,hra,hrb,_⟩
 obtain ⟨ao,ac,rfl,hac,hia⟩:=own_ix Prod.fst hra HH.out.2.2
 obtain ⟨bo,bc,rfl,hbc,hib⟩:=own_ix Prod.snd hrb HH.out.2.2
 have hoa:=odd_any ao sk ac _ w2 hia (by omega) hac
 have hob:=odd_any bo sk bc _ w2 hib (by omega) hbc
 have H2:=hid (And.intro (H1.out.1.kept hk) (And.intro (H1.out.2.1.trans hk) H1.out.2.2))
 have hla:=last_any B fb n limbs sa sk sc Ss M ps w2 (HH.out.1.kept H2.out.2.1) HH.out.2.1 (by omega)
 obtain ⟨pa,hpa⟩:∃ x,x = oddTo (fun k => (ps.getD k (0,0)).1) sk:=⟨_,rfl⟩
 obtain ⟨pb,hpb⟩:∃ x,x = oddTo (fun k => (ps.getD k (0,0)).2) sk:=⟨_,rfl⟩
 rw [← hpa] at hoa
 rw [← hpb] at hob
 have HZ:=hid (show z = if pa = pb then lastP M ps else -lastP M ps by rw [HZ0.out]; unfold detP; rw [hpa,hpb])
 clear hk hra hrb hia hib ho hac hbc hpa hpb
 cases pa with
 | false =>
  cases pb with
  | false =>
   go_wp2_with fail
   refine hoa.mono ?_
   rintro e w' ⟨rfl,rfl⟩
   go_wp2_with fail
   refine hob.mono ?_
   rintro e w' ⟨rfl,rfl⟩
   clear hoa hob
   --%C
   go_wp2_with fail
   refine hla.mono ?_
   rintro e w3 ⟨hk,s,o,k,c,rfl,hz⟩
   have H9:=hid (show RowL 37 w3 p2 [.bool false,.slice none 0 0]∧Kept w w3∧ZN w'.heap.size w3 s (.slice o k c) (lastP M ps)∧w.heap.size≤p2∧p2 < w'.heap.size∧w.heap.size≤w'.heap.size from ⟨H2.out.1.kept hk,H2.out.2.1.trans hk,hz,by rw [H2.out.2.2]; exact Nat.le_refl _,H2.out.1.lt,(H2.out.2.1).size⟩)
   clear hla hk hz
   have r9:=H9.out.1
   have d0:=r9.cell 0 _
   have d1:=r9.cell 1 _
   have f0:=r9.fz 0
   have f1:=r9.fz 1
   clear r9
   --%D
   go_wp2_with fail
   refine bodyPost_ret (v:=.agg #[.bool s,.slice o k c]) (by simp [results,Tryz.results18,go_sem,d0,d1]) rfl ⟨?_,s,o,k,c,rfl,?_⟩
   ·
    exact (H9.out.2.1.setCell (by simpa using H9.out.2.2.2.1) _).setCell (by simpa using H9.out.2.2.2.1) _
   ·
    rw [HZ.out,if_pos (by trivial)]
    exact ((H9.out.2.2.1.other (by simpa using H9.out.2.2.2.2.1) _).other (by simpa using H9.out.2.2.2.2.1) _).mono H9.out.2.2.2.2.2
  | true =>
   go_wp2_with fail
   refine hoa.mono ?_
   rintro e w' ⟨rfl,rfl⟩
   go_wp2_with fail
   refine hob.mono ?_
   rintro e w' ⟨rfl,rfl⟩
   clear hoa hob
   --%E
   go_wp2_with fail
   refine hla.mono ?_
   rintro e w3 ⟨hk3,s3,o3,k3,c3,rfl,hz3⟩
   have hop:=oppo_any s3 o3 k3 c3 (lastP M ps) w3 hz3.zi
   have K3:=hid (And.intro (H2.out.1.kept hk3) (And.intro (H2.out.2.1.trans hk3) H2.out.2.2))
   clear hla hk3 hz3
   go_wp2_with fail
   refine hop.mono ?_
   rintro e w4 ⟨hk,s,o,k,c,rfl,hz⟩
   have H9:=hid (show RowL 37 w4 p2 [.bool false,.slice none 0 0]∧Kept w w4∧ZN w3.heap.size w4 s (.slice o k c) (-lastP M ps)∧w.heap.size≤p2∧p2 < w3.heap.size∧w.heap.size≤w3.heap.size from ⟨K3.out.1.kept hk,K3.out.2.1.trans hk,hz,by rw [K3.out.2.2]; exact Nat.le_refl _,K3.out.1.lt,(K3.out.2.1).size⟩)
   clear hop hk hz
   have r9:=H9.out.1
   have d0:=r9.cell 0 _
   have d1:=r9.cell 1 _
   have f0:=r9.fz 0
   have f1:=r9.fz 1
   clear r9
   --%D
   go_wp2_with fail
   refine bodyPost_ret (v:=.agg #[.bool s,.slice o k c]) (by simp [results,Tryz.results18,go_sem,d0,d1]) rfl ⟨?_,s,o,k,c,rfl,?_⟩
   ·
    exact (H9.out.2.1.setCell (by simpa using H9.out.2.2.2.1) _).setCell (by simpa using H9.out.2.2.2.1) _
   ·
    rw [HZ.out,if_neg (by decide)]
    exact ((H9.out.2.2.1.other (by simpa using H9.out.2.2.2.2.1) _).other (by simpa using H9.out.2.2.2.2.1) _).mono H9.out.2.2.2.2.2
 | true =>
  cases pb with
  | false =>
   go_wp2_with fail
   refine hoa.mono ?_
   rintro e w' ⟨rfl,rfl⟩
   go_wp2_with fail
   refine hob.mono ?_
   rintro e w' ⟨rfl,rfl⟩
   clear hoa hob
   --%E
   go_wp2_with fail
   refine hla.mono ?_
   rintro e w3 ⟨hk3,s3,o3,k3,c3,rfl,hz3⟩
   have hop:=oppo_any s3 o3 k3 c3 (lastP M ps) w3 hz3.zi
   have K3:=hid (And.intro (H2.out.1.kept hk3) (And.intro (H2.out.2.1.trans hk3) H2.out.2.2))
   clear hla hk3 hz3
   go_wp2_with fail
   refine hop.mono ?_
   rintro e w4 ⟨hk,s,o,k,c,rfl,hz⟩
   have H9:=hid (show RowL 37 w4 p2 [.bool false,.slice none 0 0]∧Kept w w4∧ZN w3.heap.size w4 s (.slice o k c) (-lastP M ps)∧w.heap.size≤p2∧p2 < w3.heap.size∧w.heap.size≤w3.heap.size from ⟨K3.out.1.kept hk,K3.out.2.1.trans hk,hz,by rw [K3.out.2.2]; exact Nat.le_refl _,K3.out.1.lt,(K3.out.2.1).size⟩)
   clear hop hk hz
   have r9:=H9.out.1
   have d0:=r9.cell 0 _
   have d1:=r9.cell 1 _
   have f0:=r9.fz 0
   have f1:=r9.fz 1
   clear r9
   --%D
   go_wp2_with fail
   refine bodyPost_ret (v:=.agg #[.bool s,.slice o k c]) (by simp [results,Tryz.results18,go_sem,d0,d1]) rfl ⟨?_,s,o,k,c,rfl,?_⟩
   ·
    exact (H9.out.2.1.setCell (by simpa using H9.out.2.2.2.1) _).setCell (by simpa using H9.out.2.2.2.1) _
   ·
    rw [HZ.out,if_neg (by decide)]
    exact ((H9.out.2.2.1.other (by simpa using H9.out.2.2.2.2.1) _).other (by simpa using H9.out.2.2.2.2.1) _).mono H9.out.2.2.2.2.2
  | true =>
   go_wp2_with fail
   refine hoa.mono ?_
   rintro e w' ⟨rfl,rfl⟩
   go_wp2_with fail
   refine hob.mono ?_
   rintro e w' ⟨rfl,rfl⟩
   clear hoa hob
   --%C
   go_wp2_with fail
   refine hla.mono ?_
   rintro e w3 ⟨hk,s,o,k,c,rfl,hz⟩
   have H9:=hid (show RowL 37 w3 p2 [.bool false,.slice none 0 0]∧Kept w w3∧ZN w'.heap.size w3 s (.slice o k c) (lastP M ps)∧w.heap.size≤p2∧p2 < w'.heap.size∧w.heap.size≤w'.heap.size from ⟨H2.out.1.kept hk,H2.out.2.1.trans hk,hz,by rw [H2.out.2.2]; exact Nat.le_refl _,H2.out.1.lt,(H2.out.2.1).size⟩)
   clear hla hk hz
   have r9:=H9.out.1
   have d0:=r9.cell 0 _
   have d1:=r9.cell 1 _
   have f0:=r9.fz 0
   have f1:=r9.fz 1
   clear r9
   --%D
   go_wp2_with fail
   refine bodyPost_ret (v:=.agg #[.bool s,.slice o k c]) (by simp [results,Tryz.results18,go_sem,d0,d1]) rfl ⟨?_,s,o,k,c,rfl,?_⟩
   ·
    exact (H9.out.2.1.setCell (by simpa using H9.out.2.2.2.1) _).setCell (by simpa using H9.out.2.2.2.1) _
   ·
    rw [HZ.out,if_pos (by trivial)]
    exact ((H9.out.2.2.1.other (by simpa using H9.out.2.2.2.2.1) _).other (by simpa using H9.out.2.2.2.2.1) _).mono H9.out.2.2.2.2.2
end Bp
end Go.Proofs.YtdcgdpbgnijnpaaGreat

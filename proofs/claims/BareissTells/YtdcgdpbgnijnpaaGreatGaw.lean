/- A right row's sum; what Solve tells solves each row. Solutions by rows alone; sums of right sides; the unit matrix (pure). The unit matrix of n rows: its stages, and what is solved by them (pure). slices.Backward of stages: the iterator. A stage's row summed up in whatever order its map is gone through. Back: what holds of a stage's numbers (pure). bareiss.rightRow, right, New. (mk_mzk.py) The sign of an order; Det's number is the determinant. What New tells hangs on the numbers within the matrix alone; two small matrices. A matrix turned over its diagonal, row by row (pure). bareiss's Pivots: numbers in memory that lie apart. -/
import Derived.Test.YtdcgdpbgnijnpaaGreatGav
import Derived.Test.YtdcgdpbgnijnpaaGreatMzg
import Derived.Test.YtdcgdpbgnijnpaaGreatGan
import Derived.Test.YtdcgdpbgnijnpaaGreatGaa
namespace Go.Proofs.YtdcgdpbgnijnpaaGreat
open Go.RowKit
open Sy
open Bm (ZI ZI.kept ZI.of MxR ZsR mOk rowZ xz rowZ_take)
open Ba (stg lastP pivs wideZ facS Fits IsSol isum)
namespace Bp
theorem fac0_len {n l:Nat} {M:Nat→Nat→Int} {ps:List (Nat × Nat)} (hs:facS n l M = (ps,0)):ps.length = n:=by
 obtain ⟨qs,e,h1,_,h2⟩:=Ba.fac_is (n:=n) (limbs:=l) (M:=M)
 rw [hs] at h1
 cases h1
 rcases h2 with ⟨_,h2,_⟩ | ⟨h2,_⟩ | ⟨h2,_⟩
 ·
  exact h2
 ·
  cases h2
 ·
  cases h2
section
variable {n:Nat} {M:Nat→Nat→Int} {b:Nat→Int} {ps:List (Nat × Nat)}
def solX (n:Nat) (M:Nat→Nat→Int) (b:Nat→Int) (ps:List (Nat × Nat)) (j:Nat):Int:=if lastP M ps < 0 then -bkA n M b ps j else bkA n M b ps j
def solD (M:Nat→Nat→Int) (ps:List (Nat × Nat)):Int:=if lastP M ps < 0 then -lastP M ps else lastP M ps
end
theorem SolIs.cases {w:World} {n m limbs:Nat} {bq:Nat→Bool} {M:Nat→Nat→Int} {b:Nat→Int} {ps:List (Nat × Nat)} {e:Ending} {w':World} (h:SolIs w n m limbs bq M b ps (bkA n M b ps) e w') :
  Kept w w'∧((∃ c:Int,c ≠ 0∧e = solE c) ∨ (m = n∧(∀ j,j < m→bq j = true)∧∃ xo xc s o k c,e = .returned (.tuple #[.agg #[.slice xo n xc,.bool s,.slice o k c],.int .i64 0])∧SdX (EN w.heap.size) w.heap.size w' xo n xc (solX n M b ps)∧ZN w.heap.size w' s (.slice o k c) (solD M ps))):=by
 obtain ⟨hk,⟨_,rfl⟩ | ⟨_,_,rfl⟩ | ⟨h1,h2,⟨_,rfl⟩ | ⟨_,⟨_,rfl⟩ | ⟨_,xo,xc,s,o,k,c,rfl,hX,hD⟩⟩⟩⟩:=h
 ·
  exact ⟨hk,.inl ⟨5,by decide,rfl⟩⟩
 ·
  exact ⟨hk,.inl ⟨10,by decide,rfl⟩⟩
 ·
  exact ⟨hk,.inl ⟨13,by decide,rfl⟩⟩
 ·
  exact ⟨hk,.inl ⟨13,by decide,rfl⟩⟩
 ·
  refine ⟨hk,.inr ⟨h1,fun j hj => ?_,xo,xc,s,o,k,c,rfl,hX,hD⟩⟩
  cases e:bq j with
  | true => rfl
  | false =>
   have:anyB (fun j => !bq j) m = true:=anyB_ex.2 ⟨j,hj,by rw [e]; rfl⟩
   rw [h2] at this
   cases this
end Bp
end Go.Proofs.YtdcgdpbgnijnpaaGreat

namespace Go.Proofs.YtdcgdpbgnijnpaaGreat
open Ba (stg lastP pivs wideZ wideM nz facGo facS Fits IsSol isum ext bstep leftR leftC leftR_iff leftC_iff stg_snoc)
namespace Bp
section
variable {n:Nat} {M:Nat→Nat→Int} {b c:Nat→Int} {ps:List (Nat × Nat)}
theorem all_cols (h:Fits n M ps) (hl:ps.length = n) {j:Nat} (hj:j < n):j ∈ ps.map Prod.snd:=(cols_perm h hl).mem_iff.2 (List.mem_range.2 hj)
end
def idK (k:Nat):Nat→Nat→Int:=fun i j => if i = j∧k≤i then 1 else 0
def dg (k:Nat):List (Nat × Nat):=(List.range k).map fun i => (i,i)
end Bp
end Go.Proofs.YtdcgdpbgnijnpaaGreat

namespace Go.Proofs.YtdcgdpbgnijnpaaGreat
open Ba (stg lastP pivs wideZ wideM nz facGo facS Fits IsSol isum ext bstep leftR leftC leftR_iff leftC_iff stg_snoc)
namespace Bp
def idn (n k:Nat):Nat→Nat→Int:=fun i j => if i = j∧k≤i∧i < n then 1 else 0
end Bp
end Go.Proofs.YtdcgdpbgnijnpaaGreat

namespace Go.Proofs.YtdcgdpbgnijnpaaGreat
open Go.RowKit
namespace Bp
set_option maxRecDepth 100000 in
set_option maxHeartbeats 2000000 in
theorem backward_any (so:Option Addr) (n sc:Nat) (W:World):Calls Tryz.prog 66 #[.slice so n sc] W fun e w' => e = .returned (.func (.func 92) #[] #[.pointer (some ⟨W.heap.size,0,none⟩)])∧w' = W.alloc (.cells #[.slice so n sc] 65):=by
 go_enter Tryz.func66,Tryz.ntmps66
 go_wp2_with fail
 go_ret
 exact ⟨rfl,rfl⟩
end Bp
end Go.Proofs.YtdcgdpbgnijnpaaGreat

namespace Go.Proofs.YtdcgdpbgnijnpaaGreat
namespace Bp
theorem sum_done {n:Nat} {f X:Nat→Int} {D:List Nat} (hn:D.Nodup) (hD:∀ k ∈ D,k < n) (hd:∀ k,f k ≠ 0→k ∈ D):(D.map fun c => f c * X c).sum = msum n f X:=by
 unfold msum
 rw [← sum_perm (Ba.rest_perm hn hD),List.map_append,List.sum_append]
 rw [show (((List.range n).filter fun a => !D.contains a).map fun c => f c * X c).sum = 0 from sum_null fun c hc => by
  have h1:=(List.mem_filter.1 hc).2
  have:f c = 0:=Classical.byContradiction fun e => by have:=hd c e; simp [this] at h1
  rw [this,Int.zero_mul]]
 omega
theorem sum_bound {f X:Nat→Int} {W:Nat} {D:List Nat} (hf:∀ k ∈ D,(f k).natAbs≤W) (hX:∀ k ∈ D,(X k).natAbs≤W):((D.map fun c => f c * X c).sum).natAbs≤D.length * (W * W):=by
 induction D with
 | nil => exact Nat.zero_le _
 | cons a t ih =>
  have h1:=ih (fun k hk => hf k (List.mem_cons_of_mem _ hk)) (fun k hk => hX k (List.mem_cons_of_mem _ hk))
  have h2:(f a * X a).natAbs≤W * W:=by
   rw [Int.natAbs_mul]
   exact Nat.mul_le_mul (hf a (List.mem_cons_self ..)) (hX a (List.mem_cons_self ..))
  rw [List.map_cons,List.sum_cons,List.length_cons,Nat.succ_mul]
  have h3:=Int.natAbs_add_le (f a * X a) ((t.map fun c => f c * X c).sum)
  omega
end Bp
end Go.Proofs.YtdcgdpbgnijnpaaGreat

namespace Go.Proofs.YtdcgdpbgnijnpaaGreat
open Ba (stg lastP pivs Fits facS wideZ leftR_iff leftC_iff)
namespace Bp
theorem lim49:49 * 4294967296 ^ 64 < M.W72:=by unfold M.W72; decide
theorem t49 (p:Nat):49 * p = 48 * p + p:=by omega
theorem lim_core {u v:Int} {l p m:Nat} (h1:v.natAbs≤l * p) (h2:u.natAbs < p) (hl:l≤48) (h4:49 * p < m):(u - v).natAbs < m:=by
 have h3:l * p≤48 * p:=Nat.mul_le_mul_right _ hl
 have h5:=t49 p
 have h6:=Int.natAbs_sub_le u v
 omega
theorem lim_one {u:Int} {p m:Nat} (h2:u.natAbs < p) (h4:49 * p < m):u.natAbs < m:=by omega
section
variable {n limbs:Nat} {M:Nat→Nat→Int} {b:Nat→Int} {ps:List (Nat × Nat)}
theorem last_lim (h:Fits n M ps) (hl:ps.length = n) (hs:facS n limbs M = (ps,0)) (hL:limbs≤32) (h0:0 < n):(lastP M ps).natAbs < W32:=by
 obtain ⟨j,hj⟩:∃ j,n = j + 1:=⟨n - 1,by omega⟩
 have hjP:j < ps.length:=by omega
 have he:lastP M ps = stg M (ps.take j) ps[j].1 ps[j].2:=by
  have h1:=(Ba.stg_snoc M (ps.take j) ps[j].1 ps[j].2).2
  rw [← take_snoc hjP,List.take_of_length_le (by omega)] at h1
  exact h1
 rw [he]
 have hm:=h.lt _ (List.getElem_mem hjP)
 exact not_wide_32 hL (fac_num hs (by omega) hm.1 hm.2 (row_at h.rows hjP) (col_at h.cols hjP))
theorem acr_lim (hs:facS n limbs M = (ps,0)) (hL:limbs≤32) {j:Nat} (hj:j < ps.length) (c:Nat):(acr n M ps j c).natAbs < W32:=by
 unfold acr
 split
 ·
  exact w32_pos
 ·
  unfold stF
  split
  ·
   rename_i h1
   exact not_wide_32 hL (fac_num hs (by omega) h1.1.1 h1.1.2 (leftR_iff.1 h1.2.1) (leftC_iff.1 h1.2.2))
  ·
   exact w32_pos
structure StN (n:Nat) (M:Nat→Nat→Int) (b:Nat→Int) (ps:List (Nat × Nat)) (j r c:Nat):Prop where
 hr:r < n
 hc:c < n
 piv:stg M (ps.take j) r c ≠ 0
 side:(sdF n M b ps r).natAbs < W32
 last:(lastP M ps).natAbs < W32
 acr:∀ k,(acr n M ps j k).natAbs < W32
 er:ps.getD j (0,0) = (r,c)
theorem StN.of (h:Fits n M ps) (hl:ps.length = n) (hs:facS n limbs M = (ps,0)) (hL:limbs≤32) (hW:sdW n limbs M b ps n = false) {j:Nat} (hj:j < ps.length):StN n M b ps j ps[j].1 ps[j].2:=by
 have hm:=h.lt _ (List.getElem_mem hj)
 refine ⟨hm.1,hm.2,?_,?_,last_lim h hl hs hL (by omega),acr_lim hs hL hj,getD_at hj⟩
 ·
  have:=Ba.pivs_take h.piv (j + 1)
  rw [take_snoc hj] at this
  exact ((Ba.pivs_snoc _ _ _ _).1 this).2
 ·
  have:=sdW_num hW hL hm.1
  rw [List.take_of_length_le (by omega)] at this
  exact this
def rsD (n:Nat) (M:Nat→Nat→Int) (b:Nat→Int) (ps:List (Nat × Nat)) (X:Nat→Int) (j r:Nat) (D:List Nat):Int:=lastP M ps * sdF n M b ps r - (D.map fun c => acr n M ps j c * X c).sum
theorem rsD_cons {X:Nat→Int} {j r k:Nat} {D:List Nat}:rsD n M b ps X j r (k :: D) = rsD n M b ps X j r D - acr n M ps j k * X k:=by
 unfold rsD
 rw [List.map_cons,List.sum_cons]
 omega
theorem w32_sq:W32 * W32 = 4294967296 ^ 64:=by unfold W32; rw [← Nat.pow_add]
theorem rsD_lim {X:Nat→Int} {j r c:Nat} (h:StN n M b ps j r c) (hX:∀ k,k < n→(X k).natAbs < W32) {D:List Nat} (hD:∀ k ∈ D,k < n) (hl:D.length≤48):(rsD n M b ps X j r D).natAbs < _root_.Go.Proofs.YtdcgdpbgnijnpaaGreat.M.W72:=by
 have h1:=sum_bound (f:=acr n M ps j) (X:=X) (W:=W32) (D:=D) (fun k _ => Nat.le_of_lt (h.acr k)) (fun k hk => Nat.le_of_lt (hX k (hD k hk)))
 have h2:=lim_mul h.last h.side
 rw [w32_sq] at h1
 exact lim_core h1 h2 hl lim49
theorem mul_lim {x y:Int} (hx:x.natAbs < W32) (hy:y.natAbs < W32):(x * y).natAbs < _root_.Go.Proofs.YtdcgdpbgnijnpaaGreat.M.W72:=by
 exact lim_one (lim_mul hx hy) lim49
theorem rsD_done {X:Nat→Int} {j r:Nat} {D:List Nat} (hn:D.Nodup) (hD:∀ k ∈ D,k < n) (hd:∀ k,acr n M ps j k ≠ 0→k ∈ D):rsD n M b ps X j r D = lastP M ps * sdF n M b ps r - msum n (acr n M ps j) X:=by
 unfold rsD
 rw [sum_done hn hD hd]
def clip (n x:Nat):Nat:=min x (n - 1)
theorem clip_lt {n x:Nat} (h:0 < n):clip n x < n:=by unfold clip; omega
theorem clip_eq {n x:Nat} (h:x < n):clip n x = x:=by unfold clip; omega
theorem clip_dn {n k:Nat} (hk:k≤n):(dn n k).map (clip n) = dn n k:=by
 unfold dn
 rw [List.map_map]
 refine List.map_congr_left fun i hi => ?_
 rw [List.mem_range] at hi
 show clip n (n - 1 - i) = n - 1 - i
 exact clip_eq (by omega)
end
end Bp
end Go.Proofs.YtdcgdpbgnijnpaaGreat

namespace Go.Proofs.YtdcgdpbgnijnpaaGreat
open Go.RowKit
open V (RowL RowL.alloc RowL.lt RowL.cell RowL.fz RowL.kept)
open Sp (hid)
open Sy
open Ba (stg lastP facS Fits)
open Bm (ZI ZI.kept MxR mxr_at mxr_kept cel_at mOk)
namespace Bp
set_option maxRecDepth 100000 in
set_option maxHeartbeats 8000000 in
theorem rightRow_any (ao:Option Addr) (rl cap n:Nat) (L:List CE) (w:World) (h:CsR w ao L) (hl:rl = L.length) (hrl:rl≤1000000) (hn:n≤1000000) :
    Calls Tryz.prog 46 #[.slice ao rl cap,.int .i64 (n:Int)] w fun e w' => Kept w w'∧e = .returned (.bool (cOk n (-1) L)):=by
  have HL:=hid (And.intro h hl)
  obtain ⟨z,hz⟩:∃ z,z = cOk n (-1) L:=⟨_,rfl⟩
  have HZ:=hid (show z = cOk n (0 - 1) (L.drop 0) from hz)
  rw [← hz]
  clear h hl hz
  go_enter Tryz.func46,Tryz.ntmps46
  go_wp2_with fail
  go_loopw [5,10] (fun v5 v10 wr => ∃ (k:Nat) (x:Int),k≤rl∧0≤x∧x≤(n:Int)∧v5 = .int .i64 x∧v10 = .int .i64 (k:Int)∧Hid (Kept w wr∧z = cOk n (x - 1) (L.drop k))) (fun _ v10 _ => rl - (intOf v10).toNat)
  case atStart => exact ⟨0,0,Nat.zero_le _,Int.le_refl _,Int.natCast_nonneg _,rfl,rfl,Kept.refl _,HZ.out⟩
  case round =>
    clear HZ
    obtain ⟨k,x,hkl,hx0,hxn,rfl,rfl,H⟩:=hrel
    generalize wr = w1 at H ⊢
    by_cases hkt:k < rl
    · have hkk:(k:Int) < (rl:Int):=by omega
      have hk0:(0:Int)≤(k:Int):=by omega
      have hkL:k < L.length:=by have:=HL.out.2; omega
      obtain ⟨b,off,y,m,zo,zc,zl,rfl,hce,hc,hok⟩:=cel_at HL.out.1 hkL
      have HZE:=hid hok
      obtain ⟨c0,c1,c2⟩:=hc _ H.out.1
      obtain ⟨xr,hxr⟩:∃ x,x = ZE.right ⟨m,zo,zc,zl⟩:=⟨_,rfl⟩
      obtain ⟨xn,hxn2⟩:∃ x,x = ZE.nought ⟨m,zo,zc,zl⟩:=⟨_,rfl⟩
      have HN:=hid (show z = (((decide (x - 1 < y) && decide (y < (n:Int))) && (xr && !xn)) && cOk n y (L.drop (k + 1))) by rw [H.out.2,cOk_at hkL,hce,hxr,hxn2])
      have HX:=hid (And.intro hxr hxn2)
      have HK:=hid H.out.1
      have hzl:zl.length≤9223372036854775807:=hok.2
      obtain ⟨nl,hnl⟩:∃ q,q = zl.length:=⟨_,rfl⟩
      rw [← hnl] at c2 hzl
      have HNL:=hid hnl
      have kA:=HK.out.alloc (.cells #[.int .i64 y,.bool m,.slice zo nl zc] 39)
      have rA:=RowL.alloc 39 w1 [.int .i64 y,.bool m,.slice zo nl zc]
      clear hc hok hce H hxr hxn2 hnl
      go_upto_region 5 with fail
      generalize w1.alloc (.cells #[.int .i64 y,.bool m,.slice zo nl zc] 39) = W at kA rA ⊢
      obtain ⟨q,hq⟩:∃ q,q = w1.heap.size:=⟨_,rfl⟩
      rw [← hq] at rA ⊢
      have HW:=hid (And.intro kA rA)
      have d0:=rA.cell 0 _
      have d1:=rA.cell 1 _
      have d2:=rA.cell 2 _
      clear kA rA hq c0 c1 c2 HK
      --%B
      by_cases e1:y < x
      · have HE:=hid (show z = false by rw [HN.out,decide_eq_false (show ¬ x - 1 < y by omega)]; rfl)
        go_wp2_with fail
        go_ret
        exact ⟨HW.out.1,by rw [HE.out]; rfl⟩
      · by_cases e2:(n:Int)≤y
        · have HE:=hid (show z = false by rw [HN.out,decide_eq_false (show ¬ y < (n:Int) by omega),Bool.and_false]; rfl)
          go_wp2_with fail
          go_ret
          exact ⟨HW.out.1,by rw [HE.out]; rfl⟩
        · have HN:=hid (show z = ((xr && !xn) && cOk n (y + 1 - 1) (L.drop (k + 1))) by rw [HN.out,decide_eq_true (show x - 1 < y by omega),decide_eq_true (show y < (n:Int) by omega),Bool.true_and,Bool.true_and,Int.add_sub_cancel])
          go_wp2_with fail
          --%C
          have h9:=nought_any m zo nl zc W
          have h9:Calls Tryz.prog 75 #[.agg #[.bool m,.slice zo nl zc]] W fun e w' => Kept W w'∧e = .returned (.bool xn):=by rw [HX.out.2]; unfold ZE.nought; rw [← HNL.out]; exact h9
          refine h9.mono ?_
          clear h9
          rintro e w2 ⟨hk,rfl⟩
          have HW:=hid (And.intro (HW.out.1.trans hk) (HW.out.2.kept hk))
          clear d0 d1 d2 hk
          have d0:=HW.out.2.cell 0 _
          have d1:=HW.out.2.cell 1 _
          have d2:=HW.out.2.cell 2 _
          cases xn with
          | true =>
            have HE:=hid (show z = false by rw [HN.out]; simp)
            go_wp2_with fail
            go_ret
            exact ⟨HW.out.1,by rw [HE.out]; rfl⟩
          | false =>
            --%D
            have hck:Calls Tryz.prog 62 #[.agg #[.bool m,.slice zo nl zc]] w2 fun e w' => Kept w2 w'∧e = .returned (.int .i64 (if xr = true then 0 else 10)):=by
              have hz:=HZE.out.kept HW.out.1
              have hz1:Sl w2 (.slice zo nl zc) zl:=by rw [HNL.out]; exact hz.1
              by_cases hr:R m zl
              · have e:xr = true:=by rw [HX.out.1]; exact right_R.2 hr
                rw [if_pos e]
                exact (check_yes m _ zl w2 hz1 hr).mono fun e w' ⟨a,b⟩ => ⟨b,a⟩
              · have e:¬ xr = true:=by rw [HX.out.1]; exact fun e => hr (right_R.1 e)
                rw [if_neg e]
                exact (check_no m _ zl w2 hz1 hz.2 hr).mono fun e w' ⟨a,b⟩ => ⟨b,a⟩
            cases xr with
            | false =>
              have hck:Calls Tryz.prog 62 #[.agg #[.bool m,.slice zo nl zc]] w2 fun e w' => Kept w2 w'∧e = .returned (.int .i64 10):=hck
              have HE:=hid (show z = false by rw [HN.out]; rfl)
              go_wp2_with fail
              refine hck.mono ?_
              rintro e w3 ⟨hk,rfl⟩
              have HK3:=hid (HW.out.1.trans hk)
              clear hk
              go_wp2_with fail
              go_ret
              exact ⟨HK3.out,by rw [HE.out]; rfl⟩
            | true =>
              have hck:Calls Tryz.prog 62 #[.agg #[.bool m,.slice zo nl zc]] w2 fun e w' => Kept w2 w'∧e = .returned (.int .i64 0):=hck
              have HE:=hid (show z = cOk n (y + 1 - 1) (L.drop (k + 1)) by rw [HN.out]; rfl)
              go_wp2_with fail
              refine hck.mono ?_
              rintro e w3 ⟨hk,rfl⟩
              have HW:=hid (And.intro (HW.out.1.trans hk) (HW.out.2.kept hk))
              clear d0 d1 d2 hk
              have d0:=HW.out.2.cell 0 _
              go_wp2_with fail
              go_roundw
              case rel => exact ⟨k + 1,y + 1,by omega,by omega,by omega,by go_num,by go_num,HW.out.1,HE.out⟩
              case measure => show rl - ((k:Int) + 1).toNat < rl - (k:Int).toNat; omega
    · have hkk:¬ (k:Int) < (rl:Int):=by omega
      have HE:=hid (show z = true by rw [H.out.2,List.drop_eq_nil_of_le (by have:=HL.out.2; omega)]; rfl)
      go_wp2_with fail
      go_ret
      exact ⟨H.out.1,by rw [HE.out]; rfl⟩
theorem enter_right (args:Array Value) (w:World):(callFunc 45 args).run Tryz.prog w = .ok (.enter 45 args) w:=by simp
def RwQ (L:List LE):World→Nat→Value→Prop:=fun W j v => ∃ ra rc,v = .slice ra (L.getD j ⟨none,0,[]⟩).cs.length rc∧CsR W ra (L.getD j ⟨none,0,[]⟩).cs
theorem RwQ.kept {L:List LE}:∀ (w w':World) (j:Nat) (v:Value),Kept w w'→RwQ L w j v→RwQ L w' j v:=by
  rintro w w' j v k ⟨ra,rc,h1,h2⟩
  exact ⟨ra,rc,h1,csr_kept h2 k⟩
set_option maxRecDepth 100000 in
set_option maxHeartbeats 4000000 in
theorem right1_any (cs:List CE) (ra:Option Addr) (rc:Nat) (ao:Option Addr) (n c p:Nat) (w:World) (h:CsR w ra cs) (hl:cs.length≤1000000) (hn:n≤1000000) (hc:w.cell? ⟨p,0,none⟩ = some (.slice ao n c)) :
    Calls Tryz.prog 45 #[.slice ra cs.length rc,.pointer (some ⟨p,0,none⟩)] w fun e w' => e = .returned (.bool (!cOk n (-1) cs))∧Kept w w':=by
  have hr:=rightRow_any ra cs.length rc n cs w h rfl hl hn
  generalize cs.length = rl at hr ⊢
  generalize cOk n (-1) cs = bb at hr ⊢
  clear h hl
  go_enter Tryz.func45,Tryz.ntmps45
  go_wp2_with fail
  refine hr.mono ?_
  rintro e w1 ⟨hk,rfl⟩
  have HK:=hid hk
  clear hk
  go_wp2_with fail
  go_ret
  exact ⟨by simp,HK.out⟩
set_option maxRecDepth 100000 in
set_option maxHeartbeats 4000000 in
theorem right_any (ao:Option Addr) (n c:Nat) (L:List LE) (w:World) (h:MxR w ao L) (hl:n = L.length) (hr:∀ l ∈ L,l.cs.length≤1000000) (hn:n≤1000000) :
    Calls Tryz.prog 19 #[.slice ao n c] w fun e w' => Kept w w'∧e = .returned (.bool (mOk L)):=by
  have HL:=hid (And.intro h (And.intro hl hr))
  have hm:mOk L = (decide (n≤48) && !anyB (fun j => !cOk n (-1) (L.getD j ⟨none,0,[]⟩).cs) n):=by
    unfold mOk
    rw [← hl]
    congr 1
    rw [Bool.eq_iff_iff,List.all_eq_true,Bool.not_eq_true',← Bool.not_eq_true,anyB_ex]
    constructor
    · rintro h ⟨j,hj,e⟩
      have hj':j < L.length:=by omega
      rw [List.getD_eq_getElem?_getD,List.getElem?_eq_getElem hj'] at e
      have:=h L[j] (List.getElem_mem hj')
      simp only [Option.getD_some] at e
      rw [this] at e
      cases e
    · intro h r hr
      obtain ⟨j,hj,rfl⟩:=List.getElem_of_mem hr
      cases e:cOk n (-1) L[j].cs with
      | true => rfl
      | false =>
        exfalso
        refine h ⟨j,by omega,?_⟩
        rw [List.getD_eq_getElem?_getD,List.getElem?_eq_getElem hj]
        simp only [Option.getD_some]
        rw [e]; rfl
  obtain ⟨z,hz⟩:∃ z,z = mOk L:=⟨_,rfl⟩
  rw [← hz] at hm ⊢
  have HM:=hid hm
  clear h hl hr hz hm
  have r:=RowL.alloc 22 w [.slice ao n c]
  have k:=(Kept.refl w).alloc (.cells #[.slice ao n c] 22)
  go_enter Tryz.func19,Tryz.ntmps19
  go_upto_region 1 with fail
  generalize w.alloc (.cells #[.slice ao n c] 22) = W at r k ⊢
  obtain ⟨p,hp⟩:∃ p,p = w.heap.size:=⟨_,rfl⟩
  rw [← hp] at r ⊢
  clear hp
  have c0:=r.cell 0 _
  by_cases h48:48 < n
  · have HE:=hid (show z = false by rw [HM.out,decide_eq_false (by omega)]; rfl)
    have hz48:(48:Int) < (n:Int):=by omega
    have HK:=hid k
    clear k
    go_wp2_with fail
    go_ret
    exact ⟨HK.out,by rw [HE.out]; rfl⟩
  · have hz48:¬ (48:Int) < (n:Int):=by omega
    have HE:=hid (show z = !anyB (fun j => !cOk n (-1) (L.getD j ⟨none,0,[]⟩).cs) n by rw [HM.out,decide_eq_true (by omega),Bool.true_and])
    have hel:El1 isSl (RwQ L) W (.slice ao n c) n:=by
      refine ⟨ao,c,rfl,fun h0 => ?_⟩
      have h1:=mxr_kept HL.out.1 k
      have hn0:0 < L.length:=by have:=HL.out.2.1; omega
      obtain ⟨b,off,e,hb,hx⟩:=h1 hn0
      refine ⟨b,off,e,hb,fun j hj => ?_⟩
      have hj':j < L.length:=by have:=HL.out.2.1; omega
      obtain ⟨h2,h3⟩:=hx j hj'
      refine ⟨L[j].v,⟨_,_,_,rfl⟩,?_,L[j].ao,L[j].cap,?_,?_⟩
      · have:=h2 0 _ rfl
        rw [Nat.mul_one,Nat.add_zero] at this
        exact this
      · rw [List.getD_eq_getElem?_getD,List.getElem?_eq_getElem hj']; rfl
      · rw [List.getD_eq_getElem?_getD,List.getElem?_eq_getElem hj']; exact h3
    have hcon:=con_rows 45 #[.pointer (some ⟨p,0,none⟩)] (fun j => !cOk n (-1) (L.getD j ⟨none,0,[]⟩).cs) enter_right (RwQ L) RwQ.kept ao n c W (fun V j v K hj hq => by
      obtain ⟨ra,rc,rfl,hC⟩:=hq
      have hr:=r.kept K
      have hj':j < L.length:=by have:=HL.out.2.1; omega
      exact (right1_any _ ra rc ao n c p V hC (by rw [List.getD_eq_getElem?_getD,List.getElem?_eq_getElem hj']; exact HL.out.2.2 _ (List.getElem_mem hj')) (by omega) (hr.cell 0 _)).mono fun e w' ⟨a,b⟩ => ⟨a,K.trans b⟩) hel (by omega)
    rw [show anyB (fun j => !cOk n (-1) (L.getD j ⟨none,0,[]⟩).cs) n = !z by rw [HE.out]; simp] at hcon
    have HK:=hid k
    clear k hel
    go_wp2_with fail
    refine hcon.mono ?_
    rintro e w1 ⟨hk,rfl⟩
    have HK:=hid (HK.out.trans hk)
    clear hk hcon
    go_wp2_with fail
    go_ret
    exact ⟨HK.out,by simp⟩
def NewIs (L:List LE) (n:Nat) (limbs:Int) (w:World) (e:Ending) (w':World):Prop :=
  Kept w w'∧((mOk L = false∧e = .returned (.tuple #[.pointer none,.int .i64 0,.int .i64 130])) ∨
    (mOk L = true∧(limbs < 1 ∨ 32 < limbs)∧e = .returned (.tuple #[.pointer none,.int .i64 0,.int .i64 1])) ∨
    (mOk L = true∧(1≤limbs∧limbs≤32)∧∃ ps er,facS n limbs.toNat (matF L) = (ps,er)∧Fits n (matF L) ps ∧
      ((er ≠ 0∧e = .returned (.tuple #[.pointer none,.int .i64 (ps.length:Int),.int .i64 er])) ∨
       (er = 0∧∃ fb sa sk sc Ss,e = .returned (.tuple #[.pointer (some ⟨fb,0,none⟩),.int .i64 (ps.length:Int),.int .i64 0])∧FacR w.heap.size w' fb n limbs.toNat sa sk sc Ss (matF L) ps))))
set_option maxRecDepth 100000 in
set_option maxHeartbeats 8000000 in
theorem new_any (ao:Option Addr) (n c:Nat) (limbs:Int) (L:List LE) (w:World) (h:MxR w ao L) (hl:n = L.length) (hr:∀ l ∈ L,l.cs.length≤1000000) (hn:n≤1000000) (hb1:-9223372036854775808≤limbs) (hb2:limbs≤9223372036854775807) :
    Calls Tryz.prog 7 #[.slice ao n c,.int .i64 limbs] w (NewIs L n limbs w):=by
  obtain ⟨Q,hQ⟩:∃ Q,Q = NewIs L n limbs w:=⟨_,rfl⟩
  rw [← hQ]
  have HQ:=hid hQ
  clear hQ
  have hrt:=right_any ao n c L w h hl hr hn
  have HL:=hid (And.intro h (And.intro hl hr))
  clear h hl hr
  obtain ⟨ok,hok⟩:∃ x,x = mOk L:=⟨_,rfl⟩
  rw [← hok] at hrt
  have HO:=hid hok
  clear hok
  go_enter Tryz.func7,Tryz.ntmps7
  cases ok with
  | false =>
    go_wp2_with fail
    refine hrt.mono ?_
    rintro e w1 ⟨hk,rfl⟩
    have HK:=hid hk
    clear hk hrt
    go_wp2_with fail
    go_ret3
    rw [HQ.out]
    exact ⟨HK.out,.inl ⟨HO.out.symm,rfl⟩⟩
  | true =>
    by_cases h1:limbs < 1
    · go_wp2_with fail
      refine hrt.mono ?_
      rintro e w1 ⟨hk,rfl⟩
      have HK:=hid hk
      clear hk hrt
      go_wp2_with fail
      go_ret3
      rw [HQ.out]
      exact ⟨HK.out,.inr (.inl ⟨HO.out.symm,.inl h1,rfl⟩)⟩
    · by_cases h2:32 < limbs
      · go_wp2_with fail
        refine hrt.mono ?_
        rintro e w1 ⟨hk,rfl⟩
        have HK:=hid hk
        clear hk hrt
        go_wp2_with fail
        go_ret3
        rw [HQ.out]
        exact ⟨HK.out,.inr (.inl ⟨HO.out.symm,.inr h2,rfl⟩)⟩
      · obtain ⟨lm,rfl⟩:∃ k:Nat,limbs = (k:Int):=⟨limbs.toNat,by omega⟩
        have HLm:=hid (show 1≤lm∧lm≤32 by omega)
        --%A
        go_wp2_with fail
        refine hrt.mono ?_
        rintro e w1 ⟨hk,rfl⟩
        have HK:=hid hk
        clear hk hrt
        have rF:=RowL.alloc 67 w1 [.int .i64 (lm:Int),.slice none 0 0]
        have kF:=(Kept.refl w1).alloc (.cells #[.int .i64 (lm:Int),.slice none 0 0] 67)
        --%B
        go_upto_region 6 with fail
        generalize w1.alloc (.cells #[.int .i64 (lm:Int),.slice none 0 0] 67) = w2 at rF kF ⊢
        obtain ⟨fb,hfb⟩:∃ p,p = w1.heap.size:=⟨_,rfl⟩
        rw [← hfb] at rF ⊢
        have K2:=HK.out.trans kF
        have htb:=tableOf_any w.heap.size ao n c L w2 (mxr_kept HL.out.1 K2) HL.out.2.1 HO.out.symm K2.size
        have HF:=hid (And.intro rF (And.intro K2 (show w.heap.size≤fb by rw [hfb]; exact HK.out.size)))
        clear rF kF hfb K2
        --%C
        go_wp2_with fail
        refine htb.mono ?_
        rintro e w3 ⟨hk,v,rfl,bs,hU⟩
        obtain ⟨ta,tc,bt,rfl,hT⟩:=hU.tab HF.out.2.1.size
        have hM48:n≤48:=by
          have:=HO.out
          unfold mOk at this
          have:=this.symm
          rw [Bool.and_eq_true,decide_eq_true_eq] at this
          have h3:=HL.out.2.1
          omega
        have hT2:TabR w.heap.size w3 ta bt n (fun i => bs[i]?) (stF n (matF L) []):=hT.congr fun i j hi => by
          by_cases hj:j < n
          · rw [stF_nil hi hj]
          · have e1:matF L i j = 0:=by
              rcases Int.lt_trichotomy (matF L i j) 0 with h | h | h
              · exact absurd ((hT.row i hi).lt_n (k:=j) (by omega)) hj
              · exact h
              · exact absurd ((hT.row i hi).lt_n (k:=j) (by omega)) hj
            rw [e1]
            unfold stF
            rw [if_neg (fun e => hj e.1.2)]
        have hfac:FacR w.heap.size w3 fb n lm none 0 0 [] (matF L) []:=⟨HF.out.1.kept hk,HF.out.2.2,⟨rfl,World.ownsRow_nil _ _ _ _,fun j hj => absurd hj (Nat.not_lt_zero _)⟩⟩
        have hft:=factor_any w.heap.size fb n lm bt (fun i => bs[i]?) (matF L) ta tc w3 hfac hT2 (fun i hi => ⟨bs[i]'(by rw [hU.len]; exact hi),by rw [List.getElem?_eq_getElem]⟩) hM48 HLm.out.2 (HF.out.2.1.trans hk).size
        have HK3:=hid (HF.out.2.1.trans hk)
        clear hk htb hU hT hT2 hfac
        --%D
        go_wp2_with fail
        refine hft.mono ?_
        rintro e w4 ⟨hx,er,ps,sa,sk,sc,Ss,rfl,hfs,hfi,hfac⟩
        have HK4:=hid (KX.kept HK3.out hx (fun k hk => hk))
        have hsk:=hfac.len
        have c1:=hfac.box.cell 1 _
        have HR:=hid (And.intro hfs (And.intro hfi (And.intro hfac hsk)))
        clear hft hx hfs hfi hfac hsk
        by_cases he:er = 0
        · subst he
          --%E
          go_upto_region 9 with fail
          have KT:Kept w4 w4.drew:=(Kept.refl _).drew
          refine wp_region_held_drew (S:=fun w' => w'.cell? ⟨fb,1,none⟩ = some (.slice sa sk sc)) (by kernel_rfl) ((HR.out.2.2.1.kept KT).box.cell 1 _) (fun hHeld => ?_)
          generalize w4.drew = w5 at KT hHeld ⊢
          have HK5:=hid (And.intro (HK4.out.trans KT) (HR.out.2.2.1.kept KT))
          clear KT c1
          refine tk 0 hHeld ?_
          refine tk 1 hHeld ?_
          refine tk 2 hHeld ?_
          refine tk 3 hHeld ?_
          refine tk 4 hHeld ?_
          refine tk 5 hHeld ?_
          refine tk 6 hHeld ?_
          refine tk 7 hHeld ?_
          refine tk 8 hHeld ?_
          refine wpAnyH_done (by kernel_rfl) ?_ _
          go_wp2_with fail
          go_ret3
          rw [HQ.out,HR.out.2.2.2]
          exact ⟨HK5.out.1,.inr (.inr ⟨HO.out.symm,by have:=HLm.out; omega,ps,0,HR.out.1,HR.out.2.1,.inr ⟨rfl,fb,sa,sk,sc,Ss,rfl,HK5.out.2⟩⟩)⟩
        · --%F
          go_upto_region 8 with fail
          have KT:Kept w4 w4.drew:=(Kept.refl _).drew
          refine wp_region_held_drew (S:=fun w' => w'.cell? ⟨fb,1,none⟩ = some (.slice sa sk sc)) (by kernel_rfl) ((HR.out.2.2.1.kept KT).box.cell 1 _) (fun hHeld => ?_)
          generalize w4.drew = w5 at KT hHeld ⊢
          have HK5:=hid (HK4.out.trans KT)
          clear KT c1
          have HE:=hid he
          clear he
          refine tk 0 hHeld ?_
          refine tk 1 hHeld ?_
          refine tk 2 hHeld ?_
          refine tk 3 hHeld ?_
          refine tk 4 hHeld ?_
          refine tk 5 hHeld ?_
          refine tk 6 hHeld ?_
          refine tk 7 hHeld ?_
          refine tk 8 hHeld ?_
          refine wpAnyH_done (by kernel_rfl) ?_ _
          go_wp2_with fail
          go_ret3
          rw [HQ.out,HR.out.2.2.2]
          exact ⟨HK5.out,.inr (.inr ⟨HO.out.symm,by have:=HLm.out; omega,ps,er,HR.out.1,HR.out.2.1,.inl ⟨HE.out,rfl⟩⟩)⟩
end Bp
end Go.Proofs.YtdcgdpbgnijnpaaGreat

namespace Go.Proofs.YtdcgdpbgnijnpaaGreat
open Ba (det det_succ sm_mul sm_congr sg det_rows det_congr det_tp det_range det_pivots stg_bar last_prod lastP Fits cast)
namespace Bp
def cnt (x:Nat):List Nat→Bool
 | [] => false
 | y :: t => xor (decide (y < x)) (cnt x t)
def cntU (x:Nat):List Nat→Bool
 | [] => false
 | y :: t => xor (decide (x < y)) (cntU x t)
def inv:List Nat→Bool
 | [] => false
 | x :: t => xor (cnt x t) (inv t)
def sgb (b:Bool):Rat:=if b = true then -1 else 1
section
variable {n:Nat} {M:Nat→Nat→Int} {ps:List (Nat × Nat)}
end
end Bp
end Go.Proofs.YtdcgdpbgnijnpaaGreat

namespace Go.Proofs.YtdcgdpbgnijnpaaGreat
open Ba (stg lastP barQ bstep pivs leftR leftC wideZ wideM nz facGo facS)
namespace Bp
def aM:Nat→Nat→Int:=fun i j => if i = 0 then (if j = 0 then 2 else 1) else (if j = 0 then 1 else 3)
def aN:Nat→Nat→Int:=fun i j => if i = 0 then (if j = 0 then 1 else 2) else (if j = 0 then 2 else 4)
def aB:Nat→Int:=fun i => if i = 0 then 5 else 10
end Bp
end Go.Proofs.YtdcgdpbgnijnpaaGreat

namespace Go.Proofs.YtdcgdpbgnijnpaaGreat
open Sy
open Bm (mOk)
open Ba (stg lastP pivs wideZ wideM facS Fits det cast)
namespace Bp
def colC (c r:Nat) (cs:List CE):List CE:=(cs.filter fun x => x.col == (c:Int)).map fun x => ⟨(r:Int),x.val⟩
def l0:LE:=⟨none,0,[]⟩
def tC (L:List LE) (i k c:Nat):List CE:=((List.range i).flatMap fun r => colC c r (L.getD r l0).cs) ++ colC c i ((L.getD i l0).cs.take k)
def turnL (L:List LE) (n:Nat) (av:Nat→Option Addr × Nat):List LE:=(List.range n).map fun c => ⟨(av c).1,(av c).2,tC L n 0 c⟩
theorem mOk_row {L:List LE} (h:mOk L = true):∀ r,cOk L.length (-1) (L.getD r l0).cs = true:=by
 unfold mOk at h
 rw [Bool.and_eq_true,List.all_eq_true] at h
 intro r
 by_cases hr:r < L.length
 ·
  rw [List.getD_eq_getElem?_getD,List.getElem?_eq_getElem hr]
  exact h.2 _ (List.getElem_mem hr)
 ·
  rw [List.getD_eq_getElem?_getD,List.getElem?_eq_none (by omega)]
  rfl
end Bp
end Go.Proofs.YtdcgdpbgnijnpaaGreat

namespace Go.Proofs.YtdcgdpbgnijnpaaGreat
open Go.RowKit
open V (RowL RowL.alloc RowL.lt RowL.cell RowL.fz RowL.kept)
open Sp (hid own_keptK info_parts)
open Ba (stg lastP pivs leftR leftC wideZ wideM nz facGo facS Fits leftR_iff leftC_iff stg_snoc stg_exact pivs_snoc)
open Bm (ZI ZI.kept)
open Sy (alloc_sz)
namespace Bp
def SdD (B:Nat) (w:World) (v:Value) (n:Nat) (zs:Nat→Int) (h:Nat→Nat):Prop :=
 ∃ xs,w.ownsRow B 37 2 v n xs∧h n≤w.heap.size∧B≤h 0∧(∀ j,j < n→h j≤h (j + 1))∧∀ j,j < n→∃ s ao k cap,xs[j * 2]? = some (.bool s)∧xs[j * 2 + 1]? = some (.slice ao k cap)∧ZN (h j) w s (.slice ao k cap) (zs j)∧(0 < k→∀ b o p,ao = some ⟨b,o,p⟩→b < h (j + 1))
section
variable {B:Nat} {w w':World} {v:Value} {n:Nat} {zs:Nat→Int} {h:Nat→Nat}
theorem SdD.kept (d:SdD B w v n zs h) (k:Kept w w'):SdD B w' v n zs h:=by
 obtain ⟨xs,ho,h1,h2,h3,hx⟩:=d
 refine ⟨xs,own_keptK ho k,Nat.le_trans h1 k.size,h2,h3,fun j hj => ?_⟩
 obtain ⟨s,ao,m,cap,x1,x2,x3,x4⟩:=hx j hj
 exact ⟨s,ao,m,cap,x1,x2,ZN.kept x3 k,x4⟩
theorem SdD.nil (w:World) (zs:Nat→Int):SdD w.heap.size w (.slice none 0 0) 0 zs (fun _ => w.heap.size):=⟨[],World.ownsRow_nil _ _ _ _,Nat.le_refl _,Nat.le_refl _,fun _ h => absurd h (Nat.not_lt_zero _),fun _ hj => absurd hj (Nat.not_lt_zero _)⟩
theorem zn_lt {k cap:Nat} {s:Bool} {ao:Option Addr} {z:Int} (hz:ZN B w s (.slice ao k cap) z) (h0:0 < k):∃ b,ao = some ⟨b,0,none⟩∧b < w.heap.size:=by
 obtain ⟨l,⟨_,⟨e,_⟩ | ⟨b,N,f,e,hB,hN,hr,hf⟩⟩,_⟩:=hz
 ·
  cases e
  exact absurd h0 (Nat.lt_irrefl 0)
 ·
  cases e
  exact ⟨b,rfl,hr.lt⟩
theorem SdD.snoc {W W4:World} {g4 cap4:Nat} {s:Bool} {ao:Option Addr} {k cap:Nat} (d:SdD B W v n zs h) (hz:ZN (h n) W s (.slice ao k cap) (zs n)) (xs:List Value) (hw:W.ownsRow B 37 2 v n xs)
  (hx:∀ j,j < n→∃ s ao k cap,xs[j * 2]? = some (.bool s)∧xs[j * 2 + 1]? = some (.slice ao k cap)∧ZN (h j) W s (.slice ao k cap) (zs j)∧(0 < k→∀ b o p,ao = some ⟨b,o,p⟩→b < h (j + 1)))
  (ho:W4.ownsRow B 37 2 (.slice (some ⟨g4,0,none⟩) (n + 1) cap4) (n + 1) (xs ++ [.bool s,.slice ao k cap])) (hg:W.grownBy W4 v.ownBlock):SdD B W4 (.slice (some ⟨g4,0,none⟩) (n + 1) cap4) (n + 1) zs (fun j => if j = n + 1 then W.heap.size else h j):=by
 have kx:KX (fun q => v.ownBlock = some q) W W4:=⟨hg.os,hg.tape,hg.output,hg.size,fun q hq hne => hg.block q hq (fun e => hne e.symm)⟩
 have hfr:Free 40 (fun q => v.ownBlock = some q) W:=by
  intro q hq cur fr e
  rcases hw.2 with ⟨rfl,_⟩ | ⟨g,_,_,rfl,_,hg2,_⟩
  ·
   cases hq
  ·
   cases hq
   rw [hg2] at e
   injection e with e
   injection e with _ e2
   exact absurd e2 (by decide)
 obtain ⟨_,_,h1,h2,h3,_⟩:=d
 have hl:xs.length = n * 2:=hw.1
 refine ⟨_,ho,?_,?_,fun j hj => ?_,fun j hj => ?_⟩
 ·
  dsimp only; rw [if_pos rfl]; exact hg.size
 ·
  dsimp only; rw [if_neg (by omega)]; exact h2
 ·
  dsimp only
  by_cases e:j = n
  ·
   rw [if_neg (by omega),if_pos (by omega),e]; exact h1
  ·
   rw [if_neg (by omega),if_neg (by omega)]; exact h3 j (by omega)
 dsimp only
 by_cases e:j < n
 ·
  obtain ⟨s',ao',k',cap',x1,x2,x3,x4⟩:=hx j e
  rw [if_neg (by omega),if_neg (by omega)]
  exact ⟨s',ao',k',cap',by rw [List.getElem?_append_left (by omega)]; exact x1,by rw [List.getElem?_append_left (by omega)]; exact x2,ZN.kx x3 kx hfr,x4⟩
 ·
  obtain rfl:j = n:=by omega
  rw [if_neg (by omega),if_pos rfl]
  refine ⟨s,ao,k,cap,?_,?_,ZN.kx hz kx hfr,fun h0 b o p eb => ?_⟩
  ·
   rw [List.getElem?_append_right (by omega),hl,Nat.sub_self]; rfl
  ·
   rw [List.getElem?_append_right (by omega),hl,show j * 2 + 1 - j * 2 = 1 by omega]; rfl
  ·
   obtain ⟨b',e',hb⟩:=zn_lt hz h0
   rw [e'] at eb
   injection eb with eb
   injection eb with eb
   omega
end
set_option maxRecDepth 100000 in
set_option maxHeartbeats 16000000 in
theorem pivots_dis (B fb n limbs:Nat) (sa:Option Addr) (sk sc:Nat) (Ss:List StC) (M:Nat→Nat→Int) (ps:List (Nat × Nat)) (w:World) (h:FacR B w fb n limbs sa sk sc Ss M ps) (hf:Fits n M ps) (hn:sk≤48) :
  Calls Tryz.prog 10 #[.pointer (some ⟨fb,0,none⟩)] w fun e w' => Kept w w'∧∃ v,e = .returned v∧∃ h,SdD w.heap.size w' v ps.length (pivF M ps) h:=by
 have hsk:=h.len
 have hsl:=h.sts.len
 have HH:=hid (And.intro h (And.intro hf (And.intro hsk hsl)))
 have d1:=h.box.cell 1 _
 rw [← hsk]
 clear h hf hsk hsl
 obtain ⟨i0,hi,hz0,hz1,hz2⟩:=info_parts info_zi
 go_enter Tryz.func10,Tryz.ntmps10
 go_wp2_with fail
 go_loopw [3,11] (fun v3 v11 wr => ∃ (k:Nat) (bv:Value),k≤sk∧v3 = bv∧v11 = .int .i64 (k:Int)∧Hid (Kept w wr∧∃ h,SdD w.heap.size wr bv k (pivF M ps) h)) (fun _ v11 _ => sk - (intOf v11).toNat)
 case atStart => exact ⟨0,_,Nat.zero_le _,rfl,rfl,Kept.refl _,_,SdD.nil _ _⟩
 case round =>
  obtain ⟨k,bv,hkn,rfl,rfl,H⟩:=hrel
  by_cases hlt:k < sk
  ·
   have hltz:(k:Int) < (sk:Int):=by omega
   have hk0:(0:Int)≤(k:Int):=by omega
   have hF:=HH.out.1.kept H.out.1
   obtain ⟨g,hg,_,_,hcl⟩:=hF.at (j:=k) (by have:=HH.out.2.2; omega)
   obtain ⟨S,hSd⟩:∃ S,S = Ss[k]'(by have:=HH.out.2.2; omega):=⟨_,rfl⟩
   rw [← hSd] at hcl
   have hst:=hF.sts.st k (by have:=HH.out.2.2; omega) (by have:=HH.out.2.2; omega)
   rw [← hSd] at hst
   have hzp:ZN B wr S.s1 (.slice S.o1 S.k1 S.c1) (pivF M ps k):=by
    unfold pivF
    rw [List.getD_eq_getElem?_getD,List.getElem?_eq_getElem (by have:=HH.out.2.2; omega)]
    exact hst.zp
   have hne:pivF M ps k ≠ 0:=by
    have hkp:k < ps.length:=by have:=HH.out.2.2; omega
    have:=Ba.pivs_take HH.out.2.1.piv (k + 1)
    rw [take_snoc hkp] at this
    unfold pivF
    rw [List.getD_eq_getElem?_getD,List.getElem?_eq_getElem hkp]
    exact ((pivs_snoc _ _ _ _).1 this).2
   clear hst
   subst hg
   have x0:wr.cell? ⟨g,k * 8,none⟩ = some (.int .i64 (S.r:Int)):=hcl 0 _ rfl
   have x1:=hcl 1 _ rfl
   have x2:=hcl 2 _ rfl
   have x3:=hcl 3 _ rfl
   have x4:=hcl 4 _ rfl
   have x5:=hcl 5 _ rfl
   have x6:=hcl 6 _ rfl
   have x7:=hcl 7 _ rfl
   have rP:=RowL.alloc 87 wr S.cells
   have kP:=(Kept.refl wr).alloc (.cells S.cells.toArray 87)
   have HZ:=hid (And.intro hzp hne)
   clear hcl hF hSd hzp hne
   --%A
   go_upto_region 5 with fail
   simp only [StC.cells] at rP kP
   generalize wr.alloc (.cells #[.int .i64 (S.r:Int),.int .i64 (S.c:Int),.bool S.s1,.slice S.o1 S.k1 S.c1,.bool S.s2,.slice S.o2 S.k2 S.c2,.map (some S.ba),.map (some S.bd)] 87) = w3 at rP kP ⊢
   obtain ⟨p5,hp5⟩:∃ p,p = wr.heap.size:=⟨_,rfl⟩
   rw [← hp5] at rP ⊢
   have y2:=rP.cell 2 _
   have y3:=rP.cell 3 _
   have hdu:=dupl_any S.s1 S.o1 S.k1 S.c1 (pivF M ps k) w3 (HZ.out.1.kept kP).zi HZ.out.2
   obtain ⟨hh,hD⟩:=H.out.2
   have H3:=hid (And.intro (H.out.1.trans kP) (hD.kept kP))
   clear hD
   clear rP kP hp5 x0 x1 x2 x3 x4 x5 x6 x7
   --%B
   go_wp2_with fail
   refine hdu.mono ?_
   rintro e w4 ⟨hk,s5,o5,k5,c5,rfl,hz5⟩
   have hS4:=H3.out.2.kept hk
   have hS4':=hS4
   obtain ⟨xs,ho,h1',h2',h3',hx⟩:=hS4'
   have hle:hh k≤w3.heap.size:=by
    obtain ⟨_,_,h1,_⟩:=H3.out.2
    exact h1
   have H4:=hid (And.intro (H3.out.1.trans hk) (And.intro ho (And.intro hx (And.intro (hz5.mono (B':=hh k) hle) hS4))))
   clear hS4 h1' h2' h3' hle
   have hws:w.heap.size≤w4.heap.size:=(H3.out.1.trans hk).size
   clear hk hdu hz5 ho hx y2 y3
   --%C
   go_wp2_with (at_builtin; refine wpList_append_lies _ rfl (.tmp 15) (.tmp 19) 23 rfl w.heap.size 37 i0 (.agg #[.bool false,.slice none 0 0]) 2 32 und_zi hi hz0 hz1 hz2 rfl (by decide) u3 k xs rfl (by exact World.ownsRow.alloc H4.out.2.1 _) ⟨w4.heap.size,0,none⟩ 1 1 [.bool s5,.slice o5 k5 c5] rfl rfl (cell2 w4 _ _ _) (fun u hu => by simp at hu; rcases hu with rfl | rfl <;> rfl) (by omega) (by unfold maxLen; omega) (by omega) (by simp; omega) _ rfl ?_)
   intro G cap2 w5 hO hgr _ _
   have kA:=(Kept.refl w4).alloc (.cells #[.bool s5,.slice o5 k5 c5] 37)
   have hOw:=World.ownsRow.alloc H4.out.2.1 (.cells #[.bool s5,.slice o5 k5 c5] 37)
   generalize w4.alloc (.cells #[.bool s5,.slice o5 k5 c5] 37) = W5 at kA hgr hOw
   have KW:Kept w w5:=Below.grown (H4.out.1.trans kA) hgr (H4.out.1.trans kA).size (fun q hq => (World.ownsRow.lt hOw q hq).1)
   have HN:=hid (show Kept w w5∧∃ h,SdD w.heap.size w5 _ (k + 1) (pivF M ps) h from ⟨KW,_,(H4.out.2.2.2.2.kept kA).snoc (ZN.kept H4.out.2.2.2.1 kA) xs hOw (fun j hj => by
    obtain ⟨s,ao,m,cap,e1,e2,e3,e4⟩:=H4.out.2.2.1 j hj
    exact ⟨s,ao,m,cap,e1,e2,ZN.kept e3 kA,e4⟩) hO hgr⟩)
   clear kA hOw hgr hO KW
   --%E
   go_wp2_with fail
   go_roundw
   case rel => exact ⟨k + 1,_,by omega,rfl,by go_num,HN.out.1,HN.out.2⟩
   case measure => show sk - ((k:Int) + 1).toNat < sk - (k:Int).toNat; omega
  ·
   have hltz:¬ (k:Int) < (sk:Int):=by omega
   obtain rfl:k = sk:=by omega
   --%D
   go_wp2_with fail
   go_ret
   obtain ⟨hh,hD⟩:=H.out.2
   exact ⟨H.out.1,_,rfl,hh,hD⟩
end Bp
end Go.Proofs.YtdcgdpbgnijnpaaGreat

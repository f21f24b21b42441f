/- The matrices of the reference's stages: pure; the list of stages in memory. Tools for shuntref14.Solved: lists of one's own beside others; a right side by the reference's stages: pure. The way back by the reference's stages: pure. shuntref14.Factored. shuntref14.Solved: its walk from the last sign on. (mk_ft9.py) shuntref14.Solved: its walk from the way back on. (mk_ft9.py) -/
import Derived.Test.YtdcgdpbgnijnpaaGreatFt4
import Derived.Test.YtdcgdpbgnijnpaaGreatGav
import Derived.Test.YtdcgdpbgnijnpaaGreatGar
import Derived.Test.YtdcgdpbgnijnpaaGreatGaw
import Derived.Test.YtdcgdpbgnijnpaaGreatGak
import Derived.Test.YtdcgdpbgnijnpaaGreatGan
import Derived.Test.YtdcgdpbgnijnpaaGreatGai
import Derived.Test.YtdcgdpbgnijnpaaGreatGad
namespace Go.Proofs.YtdcgdpbgnijnpaaGreat
open Go.RowKit
open V (RowL RowL.alloc RowL.lt RowL.cell RowL.fz RowL.kept RowL.block RowL.set RowL.far)
open Sp (hid own_kept own_keptK own_row own_shape info_parts)
open Ba (stg lastP pivs leftR leftC wideZ wideM nz facGo facS Fits leftR_iff leftC_iff stg_snoc stg_exact stg_col last_ne)
namespace Bp
def mF (M:Nat→Nat→Int) (ps:List (Nat × Nat)) (i k:Nat):Int:=stg M (ps.takeWhile fun p => p.1 != i) i k
section
variable {n limbs:Nat} {M:Nat→Nat→Int} {ps:List (Nat × Nat)} {i k r c:Nat}
theorem mF_left (h:i ∉ ps.map Prod.fst):mF M ps i k = stg M ps i k:=by unfold mF; rw [tw_all h]
theorem mF_same (hr:r ∉ ps.map Prod.fst) (h:i ∈ (ps ++ [(r,c)]).map Prod.fst):mF M (ps ++ [(r,c)]) i k = mF M ps i k:=by
 rw [List.map_append,List.mem_append] at h
 by_cases e:i ∈ ps.map Prod.fst
 ·
  unfold mF
  rw [tw_hit e]
 ·
  have e2:i = r:=by simpa using h.resolve_left e
  subst e2
  unfold mF
  rw [tw_own hr,tw_all hr]
theorem leftR_snoc:leftR (ps ++ [(r,c)]) i = (leftR ps i && decide (i ≠ r)):=by
 rw [Bool.eq_iff_iff,Bool.and_eq_true,leftR_iff,leftR_iff,decide_eq_true_eq,List.map_append,List.mem_append]
 simp
theorem leftC_snoc:leftC (ps ++ [(r,c)]) i = (leftC ps i && decide (i ≠ c)):=by
 rw [Bool.eq_iff_iff,Bool.and_eq_true,leftC_iff,leftC_iff,decide_eq_true_eq,List.map_append,List.mem_append]
 simp
theorem mF_next (hp:pivs M 1 ps) (hz:stg M ps r c ≠ 0) (h3:r ∉ ps.map Prod.fst) (i k:Nat):nxF (mF M ps) (leftR (ps ++ [(r,c)])) r c (lastP M ps) i k = mF M (ps ++ [(r,c)]) i k:=by
 unfold nxF
 cases e:leftR (ps ++ [(r,c)]) i with
 | false =>
  rw [if_neg (by decide)]
  refine (mF_same h3 (Classical.byContradiction fun h => ?_)).symm
  rw [leftR_iff.2 h] at e
  cases e
 | true =>
  rw [if_pos rfl]
  have h:=leftR_iff.1 e
  have h1:i ∉ ps.map Prod.fst:=fun h' => h (by rw [List.map_append]; exact List.mem_append_left _ h')
  rw [mF_left h3,mF_left h1,mF_left h1,mF_left h3,mF_left h,stg_exact hp hz i k]
  exact Int.mul_tdiv_cancel_left _ (last_ne hp)
theorem mF_wide:wideL n limbs (mF M ps) (leftR ps) (leftC ps) = wideM n limbs (stg M ps) ps:=by
 have e:∀ i k,(leftR ps i && (leftC ps k && wideZ limbs (mF M ps i k))) = (leftR ps i && (leftC ps k && wideZ limbs (stg M ps i k))):=fun i k => by
  cases e:leftR ps i with
  | false => rfl
  | true => rw [mF_left (leftR_iff.1 e)]
 unfold wideL wideM anyB
 simp only [e]
theorem mF_nz:plF (mF M ps) (leftR ps) (leftC ps) = nz (stg M ps) ps:=by
 funext i k
 unfold plF nz
 cases e:leftR ps i with
 | false => rfl
 | true => rw [mF_left (leftR_iff.1 e)]
theorem narrow_all (hp:pivs M 1 ps) (hL:limbs≤32) (hw:wideM n limbs (stg M ps) ps = false) {i k:Nat} (hi:i < n) (hk:k < n) (h1:i ∉ ps.map Prod.fst):(stg M ps i k).natAbs < W32:=by
 by_cases h2:k ∈ ps.map Prod.snd
 ·
  obtain ⟨p,hp',rfl⟩:=List.mem_map.1 h2
  rw [stg_col hp hp' i]
  decide
 ·
  unfold wideM at hw
  rw [List.any_eq_false] at hw
  have h3:=hw i (List.mem_range.2 hi)
  rw [Bool.not_eq_true,List.any_eq_false] at h3
  have h4:=h3 k (List.mem_range.2 hk)
  rw [leftR_iff.2 h1,leftC_iff.2 h2,Bool.true_and,Bool.true_and,Bool.not_eq_true] at h4
  exact not_wide_32 hL h4
theorem w32_144:W32 * W32 + W32 * W32 < 65536 ^ 144:=by unfold W32; decide
theorem mul_nat {x y:Int} (hx:x.natAbs < W32) (hy:y.natAbs < W32):(x * y).natAbs≤W32 * W32:=by
 rw [Int.natAbs_mul]
 exact Nat.mul_le_mul (Nat.le_of_lt hx) (Nat.le_of_lt hy)
theorem mF_lim (hp:pivs M 1 ps) (hL:limbs≤32) (hw:wideM n limbs (stg M ps) ps = false) (hr:r < n) (hc:c < n) (h3:r ∉ ps.map Prod.fst) (hb:∀ i,i < n→∀ k,k < n→(mF M ps i k).natAbs < 65536 ^ 144) :
  ∀ i,i < n→∀ k,k < n→(nxF (mF M ps) (leftR (ps ++ [(r,c)])) r c (lastP M ps) i k).natAbs < 65536 ^ 144:=by
 intro i hi k hk
 unfold nxF
 cases e:leftR (ps ++ [(r,c)]) i with
 | false => rw [if_neg (by decide)]; exact hb i hi k hk
 | true =>
  rw [if_pos rfl]
  have h:=leftR_iff.1 e
  have h1:i ∉ ps.map Prod.fst:=fun h' => h (by rw [List.map_append]; exact List.mem_append_left _ h')
  rw [mF_left h3,mF_left h1,mF_left h1,mF_left h3]
  have a1:=mul_nat (narrow_all hp hL hw hr hc h3) (narrow_all hp hL hw hi hk h1)
  have a2:=mul_nat (narrow_all hp hL hw hi hc h1) (narrow_all hp hL hw hr hk h3)
  have a3:(stg M ps r c * stg M ps i k - stg M ps i c * stg M ps r k).natAbs≤W32 * W32 + W32 * W32:=by omega
  refine Nat.lt_of_le_of_lt ?_ w32_144
  rw [Int.natAbs_tdiv]
  exact Nat.le_trans (Nat.div_le_self _ _) a3
end
def SgR (A:Nat→Prop) (n:Nat) (M:Nat→Nat→Int) (ps:List (Nat × Nat)) (w:World) (v:Value):Prop :=
 ∃ ao cap,v = .slice ao ps.length cap∧(0 < ps.length→∃ b:Nat,ao = some ⟨b,0,none⟩∧b < w.heap.size∧¬ A b∧∀ j (hj:j < ps.length),w.cell? ⟨b,j * 3,none⟩ = some (.int .i64 (ps[j].1:Int))∧w.cell? ⟨b,j * 3 + 1,none⟩ = some (.int .i64 (ps[j].2:Int))∧∃ so sc,w.cell? ⟨b,j * 3 + 2,none⟩ = some (.slice so n sc)∧MNA A 144 n (mF M (ps.take j)) w (.slice so n sc) n)
def SgO (A:Nat→Prop) (P n:Nat) (M:Nat→Nat→Int) (ps:List (Nat × Nat)) (w:World) (v:Value):Prop :=
 ∃ xs,w.ownsRow P 47 3 v ps.length xs∧(∀ b,v.ownBlock = some b→¬ A b)∧∀ j (hj:j < ps.length),xs[j * 3]? = some (.int .i64 (ps[j].1:Int))∧xs[j * 3 + 1]? = some (.int .i64 (ps[j].2:Int))∧∃ so sc,xs[j * 3 + 2]? = some (.slice so n sc)∧MNA (fun q => A q ∨ v.ownBlock = some q) 144 n (mF M (ps.take j)) w (.slice so n sc) n
section
variable {A A':Nat→Prop} {P n:Nat} {M:Nat→Nat→Int} {ps:List (Nat × Nat)} {w w' W W4:World} {v:Value}
theorem SgR.kx (h:SgR A n M ps w v) (k:KX A w w'):SgR A n M ps w' v:=by
 obtain ⟨ao,cap,rfl,h⟩:=h
 refine ⟨ao,cap,rfl,fun h0 => ?_⟩
 obtain ⟨b,rfl,hb,hA,hc⟩:=h h0
 have hh:=k.block b hb hA
 refine ⟨b,rfl,Nat.lt_of_lt_of_le hb k.size,hA,fun j hj => ?_⟩
 obtain ⟨h1,h2,so,sc,h3,h4⟩:=hc j hj
 exact ⟨(World.cell?_of_block (a:=⟨b,j * 3,none⟩) hh).trans h1,(World.cell?_of_block (a:=⟨b,j * 3 + 1,none⟩) hh).trans h2,so,sc,(World.cell?_of_block (a:=⟨b,j * 3 + 2,none⟩) hh).trans h3,h4.kx k⟩
theorem SgR.kept (h:SgR A n M ps w v) (k:Kept w w'):SgR A n M ps w' v:=h.kx (KX.of k)
theorem SgO.nil (A:Nat→Prop) (P n:Nat) (M:Nat→Nat→Int) (w:World):SgO A P n M [] w (.slice none 0 0):=⟨[],World.ownsRow_nil _ _ _ _,(fun b h => by cases h),fun _ hj => absurd hj (Nat.not_lt_zero _)⟩
theorem SgO.kept (h:SgO A P n M ps w v) (k:Kept w w'):SgO A P n M ps w' v:=by
 obtain ⟨xs,ho,hA,hx⟩:=h
 refine ⟨xs,own_keptK ho k,hA,fun j hj => ?_⟩
 obtain ⟨h1,h2,so,sc,h3,h4⟩:=hx j hj
 exact ⟨h1,h2,so,sc,h3,h4.kept k⟩
theorem SgO.sgr (h:SgO A P n M ps w v):SgR A n M ps w v:=by
 obtain ⟨xs,ho,hA,hx⟩:=h
 obtain ⟨ao,cap,rfl⟩:=own_shape ho
 refine ⟨ao,cap,rfl,fun h0 => ?_⟩
 rcases ho.2 with ⟨_,e⟩ | ⟨g,cap',cur,e,_⟩
 ·
  omega
 ·
  cases e
  refine ⟨g,rfl,(World.ownsRow.lt ho g rfl).2,hA g rfl,fun j hj => ?_⟩
  obtain ⟨h1,h2,so,sc,h3,h4⟩:=hx j hj
  exact ⟨(ho.cellAt _ (by omega)).trans h1,(ho.cellAt _ (by omega)).trans h2,so,sc,(ho.cellAt _ (by omega)).trans h3,h4.mono (fun q h => .inl h) (Nat.le_refl _)⟩
theorem SgO.snoc {g4 cap4 r c:Nat} {so:Option Addr} {sc:Nat} (hA:∀ q,A q→q < W.heap.size) (xs:List Value) (hl:xs.length = ps.length * 3) (hv:∀ b,v.ownBlock = some b→¬ A b)
  (hx:∀ j (hj:j < ps.length),xs[j * 3]? = some (.int .i64 (ps[j].1:Int))∧xs[j * 3 + 1]? = some (.int .i64 (ps[j].2:Int))∧∃ so sc,xs[j * 3 + 2]? = some (.slice so n sc)∧MNA (fun q => A q ∨ v.ownBlock = some q) 144 n (mF M (ps.take j)) W (.slice so n sc) n)
  (hz:MNA (fun q => A q ∨ v.ownBlock = some q) 144 n (mF M ps) W (.slice so n sc) n) (ho:W4.ownsRow P 47 3 (.slice (some ⟨g4,0,none⟩) (ps.length + 1) cap4) (ps.length + 1) (xs ++ [.int .i64 (r:Int),.int .i64 (c:Int),.slice so n sc])) (hg:W.grownBy W4 v.ownBlock) (hG:v.ownBlock = some g4 ∨ g4 = W.heap.size) :
  SgO A P n M (ps ++ [(r,c)]) W4 (.slice (some ⟨g4,0,none⟩) (ps.length + 1) cap4)∧MNA (fun q => A q ∨ g4 = q) 144 n (mF M ps) W4 (.slice so n sc) n:=by
 have up:∀ {u:Value} {F:Nat→Nat→Int},MNA (fun q => A q ∨ v.ownBlock = some q) 144 n F W u n→MNA (fun q => A q ∨ g4 = q) 144 n F W4 u n:=fun h => by
  refine MNA.mono (A:=fun q => A q ∨ v.ownBlock = some q ∨ q = g4) (MNA.kx (w:=W) ?_ ((KX.grown hg).mono fun q hq => .inr (.inl hq.symm))) (fun q hq => ?_) (Nat.le_refl _)
  ·
   refine h.add.mono (fun q hq => ?_) (Nat.le_refl _)
   rcases hq with hq | hq | rfl
   ·
    exact .inl (.inl hq)
   ·
    exact .inl (.inr hq)
   ·
    rcases hG with e | e
    ·
     exact .inl (.inr e)
    ·
     exact .inr (by omega)
  ·
   rcases hq with hq | hq
   ·
    exact .inl hq
   ·
    exact .inr (.inr hq.symm)
 have hlen:(ps ++ [(r,c)]).length = ps.length + 1:=by simp
 refine ⟨⟨_,by rw [hlen]; exact ho,fun b hb hq => ?_,fun j hj => ?_⟩,up hz⟩
 ·
  have hb:g4 = b:=by simpa [Value.ownBlock] using hb
  subst hb
  rcases hG with e | e
  ·
   exact hv _ e hq
  ·
   have:=hA _ hq; omega
 ·
  have eA:(fun q => A q ∨ Value.ownBlock (.slice (some ⟨g4,0,none⟩) (ps.length + 1) cap4) = some q) = fun q => A q ∨ g4 = q:=by
   funext q
   simp [Value.ownBlock]
  rw [eA]
  by_cases e:j < ps.length
  ·
   obtain ⟨h1,h2,so',sc',h3,h4⟩:=hx j e
   rw [List.getElem_append_left e,List.take_append_of_le_length (by omega)]
   exact ⟨by rw [List.getElem?_append_left (by omega)]; exact h1,by rw [List.getElem?_append_left (by omega)]; exact h2,so',sc',by rw [List.getElem?_append_left (by omega)]; exact h3,up h4⟩
  ·
   have e2:j = ps.length:=by omega
   subst e2
   rw [List.getElem_append_right (Nat.le_refl _),List.take_left']
   ·
    refine ⟨?_,?_,so,sc,?_,up hz⟩
    ·
     rw [List.getElem?_append_right (by omega),hl,Nat.sub_self]; simp
    ·
     rw [List.getElem?_append_right (by omega),hl,show ps.length * 3 + 1 - ps.length * 3 = 1 by omega]; simp
    ·
     rw [List.getElem?_append_right (by omega),hl,show ps.length * 3 + 2 - ps.length * 3 = 2 by omega]; rfl
   ·
    rfl
end
end Bp
end Go.Proofs.YtdcgdpbgnijnpaaGreat

namespace Go.Proofs.YtdcgdpbgnijnpaaGreat
open Go.RowKit
open V (RowL RowL.alloc RowL.lt RowL.cell RowL.fz RowL.kept RowL.block RowL.set RowL.far)
open Sp (hid own_kept own_keptK own_row own_shape info_parts)
open Ba (stg lastP pivs leftR leftC wideZ wideM nz facGo facS Fits leftR_iff leftC_iff stg_snoc stg_exact stg_col last_ne pivs_take ext)
namespace Bp
section
variable {A T:Nat→Prop} {P K n:Nat} {zs:Nat→Int} {w w':World} {v:Value}
theorem row_kx {t:TypeId} {p:Nat} {xs:List Value} (h:RowL t w p xs) (k:KX T w w') (hp:¬ T p):RowL t w' p xs:=by
 have hlt:=World.rowIs.lt h
 obtain ⟨c,hb,hn,hc⟩:=h
 exact ⟨c,(k.block p hlt hp).trans hb,hn,hc⟩
theorem NO.kx (h:NO A P K zs w v n) (k:KX T w w') (hT:∀ q,T q→A q):NO A P K zs w' v n:=by
 obtain ⟨xs,ho,hA,hx⟩:=h
 refine ⟨xs,own_kept ho fun b hb => k.block b (World.ownsRow.lt ho b hb).2 fun ht => hA b hb (hT b ht),hA,fun j hj => ?_⟩
 obtain ⟨s,ao,m,cap,x1,x2,x3⟩:=hx j hj
 exact ⟨s,ao,m,cap,x1,x2,x3.kx (k.mono fun q hq => .inl (hT q hq))⟩
theorem NO.get {g c j:Nat} (h:NO A P K zs w (.slice (some ⟨g,0,none⟩) n c) n) (hj:j < n):∃ s ao k cap,w.cell? ⟨g,j * 2,none⟩ = some (.bool s)∧w.cell? ⟨g,j * 2 + 1,none⟩ = some (.slice ao k cap)∧DX (fun q => A q ∨ q = g) K w s (.slice ao k cap) (zs j)∧k≤K:=by
 obtain ⟨xs,ho,hA,hx⟩:=h
 obtain ⟨s,ao,m,cap,x1,x2,x3⟩:=hx j hj
 have e:=x3
 obtain ⟨_,_,_,_,e,hk,_⟩:=e
 cases e
 exact ⟨s,ao,m,cap,(ho.cellAt _ (by omega)).trans x1,(ho.cellAt _ (by omega)).trans x2,x3.mono (fun q hq => hq.imp id fun hq => by rw [hq]; rfl) (Nat.le_refl K),hk⟩
theorem NO.fz {g c:Nat} (h:NO A P K zs w (.slice (some ⟨g,0,none⟩) n c) n) (i:Nat):w.frozen? ⟨g,i,none⟩ = false:=World.ownsRow.frozenAt (show w.ownsRow P 51 2 (.slice (some ⟨g,0,none⟩) n c) n _ from h.choose_spec.1) i
theorem NO.lt {g c:Nat} (h:NO A P K zs w (.slice (some ⟨g,0,none⟩) n c) n):P≤g∧g < w.heap.size:=World.ownsRow.lt h.choose_spec.1 g rfl
theorem put_kx {g j:Nat} (a b:Value):KX (fun q => q = g) w ((w.setCell ⟨g,j * 2,none⟩ a).setCell ⟨g,j * 2 + 1,none⟩ b):=((KX.refl w).setCell (T:=fun k => k = g) (p:=⟨g,j * 2,none⟩) (.inl rfl) a).setCell (p:=⟨g,j * 2 + 1,none⟩) (.inl rfl) b
end
/- A right side,row by row. -/
section
variable {n limbs:Nat} {M:Nat→Nat→Int} {b:Nat→Int} {ps:List (Nat × Nat)}
def sideF (n:Nat) (M:Nat→Nat→Int) (b:Nat→Int) (ps:List (Nat × Nat)) (k i j:Nat):Int:=if j < i then sdF n M b (ps.take (k + 1)) j else sdF n M b (ps.take k) j
theorem sideF_0 {k:Nat}:sideF n M b ps k 0 = sdF n M b (ps.take k):=by
 funext j
 unfold sideF
 rw [if_neg (Nat.not_lt_zero _)]
theorem sideF_n {k j:Nat} (hj:j < n):sideF n M b ps k n j = sdF n M b (ps.take (k + 1)) j:=by
 unfold sideF
 rw [if_pos hj]
theorem sideF_at {k i:Nat}:sideF n M b ps k i i = sdF n M b (ps.take k) i:=by
 unfold sideF
 rw [if_neg (Nat.lt_irrefl _)]
theorem sideF_upd {k i:Nat}:upd (sideF n M b ps k i) i (sdF n M b (ps.take (k + 1)) i) = sideF n M b ps k (i + 1):=by
 funext j
 unfold upd sideF
 by_cases e:j = i
 ·
  subst e; rw [if_pos rfl,if_pos (by omega)]
 ·
  rw [if_neg e]
  by_cases e2:j < i
  ·
   rw [if_pos e2,if_pos (by omega)]
  ·
   rw [if_neg e2,if_neg (by omega)]
theorem sideF_stay {k i:Nat} (h:sdF n M b (ps.take (k + 1)) i = sdF n M b (ps.take k) i):sideF n M b ps k (i + 1) = sideF n M b ps k i:=by
 rw [← sideF_upd]
 funext j
 unfold upd
 by_cases e:j = i
 ·
  subst e; rw [if_pos rfl,sideF_at,h]
 ·
  rw [if_neg e]
theorem sd_stay (h:Fits n M ps) {k i:Nat} (hk:k < ps.length) (hi:leftR (ps.take (k + 1)) i = false):sdF n M b (ps.take (k + 1)) i = sdF n M b (ps.take k) i:=by
 rw [take_snoc hk]
 rw [take_snoc hk] at hi
 refine sdF_same (row_at h.rows hk) (Classical.byContradiction fun h => ?_)
 rw [leftR_iff.2 h] at hi
 cases hi
theorem fits_cols (h:Fits n M ps) (k:Nat):∀ p ∈ ps.take k,p.2 ≠ n:=fun p hp => by
 have:=(h.lt p (List.mem_of_mem_take hp)).2
 omega
theorem sd_exact (h:Fits n M ps) {k i:Nat} (hk:k < ps.length) (hi:leftR (ps.take (k + 1)) i = true) :
  sdF n M b (ps.take (k + 1)) i = Int.tdiv (stg M (ps.take k) ps[k].1 ps[k].2 * sdF n M b (ps.take k) i - stg M (ps.take k) i ps[k].2 * sdF n M b (ps.take k) ps[k].1) (lastP M (ps.take k)):=by
 have hp:=pivs_take h.piv k
 have hz:stg M (ps.take k) ps[k].1 ps[k].2 ≠ 0:=by
  have:=pivs_take h.piv (k + 1)
  rw [take_snoc hk] at this
  exact ((Ba.pivs_snoc _ _ M 1).1 this).2
 have hl:=leftR_iff.1 hi
 rw [take_snoc hk] at hl
 rw [take_snoc hk,← sdF_step hp (fits_cols h k) (by have:=(h.lt _ (List.getElem_mem hk)).2; omega) hz (fun h' => hl (by rw [List.map_append]; exact List.mem_append_left _ h')) (fun e => hl (by rw [List.map_append,e]; exact List.mem_append_right _ (by simp))) (row_at h.rows hk),Int.mul_tdiv_cancel _ (last_ne hp)]
def ownF (n:Nat) (M:Nat→Nat→Int) (b:Nat→Int) (ps:List (Nat × Nat)) (k j:Nat):Int:=if j < k then sdF n M b ps (ps.getD j (0,0)).1 else 0
theorem ownF_0:ownF n M b ps 0 = fun _ => 0:=by
 funext j
 unfold ownF
 rw [if_neg (Nat.not_lt_zero _)]
theorem tw_at {ps:List (Nat × Nat)} (hd:(ps.map Prod.fst).Nodup) {k r:Nat} (hk:k < ps.length) (hr:ps[k].1 = r):ps.takeWhile (fun p => p.1 != r) = ps.take k:=by
 have h1:r ∉ (ps.take k).map Prod.fst:=by rw [← hr]; exact row_at hd hk
 have h2:ps.take (k + 1) = ps.take k ++ [(r,ps[k].2)]:=by rw [take_snoc hk,hr]
 calc ps.takeWhile (fun p => p.1 != r) = (ps.take (k + 1) ++ ps.drop (k + 1)).takeWhile (fun p => p.1 != r):=by rw [List.take_append_drop]
  _ = (ps.take (k + 1)).takeWhile (fun p => p.1 != r):=tw_hit (by rw [h2,List.map_append]; exact List.mem_append_right _ (by simp))
  _ = ps.take k:=by rw [h2,tw_own h1]
theorem sd_own (h:Fits n M ps) {k:Nat} (hk:k < ps.length):sdF n M b (ps.take k) ps[k].1 = sdF n M b ps ps[k].1:=by
 unfold sdF
 rw [tw_at h.rows hk rfl,tw_all (row_at h.rows hk)]
theorem ownF_upd (h:Fits n M ps) {k:Nat} (hk:k < ps.length):upd (ownF n M b ps k) k (sdF n M b (ps.take k) ps[k].1) = ownF n M b ps (k + 1):=by
 funext j
 unfold upd ownF
 by_cases e:j = k
 ·
  subst e
  rw [if_pos rfl,if_pos (by omega),sd_own h hk,List.getD_eq_getElem?_getD,List.getElem?_eq_getElem hk]
  rfl
 ·
  rw [if_neg e]
  by_cases e2:j < k
  ·
   rw [if_pos e2,if_pos (by omega)]
  ·
   rw [if_neg e2,if_neg (by omega)]
def sdL (n limbs:Nat) (M:Nat→Nat→Int) (b:Nat→Int) (ps:List (Nat × Nat)) (k:Nat):Bool:=anyB (fun i => leftR (ps.take k) i && wideZ limbs (sdF n M b (ps.take k) i)) n
end
end Bp
end Go.Proofs.YtdcgdpbgnijnpaaGreat

namespace Go.Proofs.YtdcgdpbgnijnpaaGreat
open Ba (stg lastP pivs leftR leftC wideZ wideM nz facGo facS Fits leftR_iff leftC_iff stg_snoc stg_exact stg_col last_ne pivs_take ext isum IsSol sol_step)
namespace Bp
section
variable {n limbs:Nat} {M:Nat→Nat→Int} {b:Nat→Int} {ps:List (Nat × Nat)} {X:Nat→Int}
theorem isum_snoc (m:Nat→Nat→Int) (X:Nat→Int) (i c:Nat):∀ l:List Nat,isum m X i (l ++ [c]) = isum m X i l + m i c * X c:=by
 intro l
 induction l with
 | nil => show m i c * X c + 0 = 0 + m i c * X c; omega
 | cons a t ih =>
  show m i a * X a + isum m X i (t ++ [c]) = m i a * X a + isum m X i t + m i c * X c
  rw [ih]
  omega
def remF (M:Nat→Nat→Int) (b:Nat→Int) (n:Nat) (ps:List (Nat × Nat)) (X:Nat→Int) (k t:Nat):Int :=
 lastP M ps * sdF n M b ps (ps.getD k (0,0)).1 - isum (stg M (ps.take k)) X (ps.getD k (0,0)).1 (((ps.drop (k + 1)).take t).map Prod.snd)
theorem remF_0 {k:Nat}:remF M b n ps X k 0 = lastP M ps * sdF n M b ps (ps.getD k (0,0)).1:=by
 unfold remF
 rw [List.take_zero]
 show _ - 0 = _
 omega
theorem remF_step {k t:Nat} (ht:k + 1 + t < ps.length):remF M b n ps X k (t + 1) = remF M b n ps X k t - stg M (ps.take k) (ps.getD k (0,0)).1 (ps[k + 1 + t]'ht).2 * X (ps[k + 1 + t]'ht).2:=by
 unfold remF
 have e:(ps.drop (k + 1)).take (t + 1) = (ps.drop (k + 1)).take t ++ [ps[k + 1 + t]'ht]:=by
  rw [List.take_add_one,List.getElem?_drop,List.getElem?_eq_getElem ht]
  rfl
 rw [e,List.map_append,List.map_cons,List.map_nil,isum_snoc]
 omega
theorem remF_end (h:Fits n M ps) (hX:IsSol n M b ps X) {k:Nat} (hk:k < ps.length) {t:Nat} (ht:ps.length≤k + 1 + t):Int.tdiv (remF M b n ps X k t) (stg M (ps.take k) ps[k].1 ps[k].2) = X ps[k].2:=by
 have e:=sol_step hX hk
 have e2:(ps.drop (k + 1)).take t = ps.drop (k + 1):=List.take_of_length_le (by rw [List.length_drop]; omega)
 have e3:ps.getD k (0,0) = ps[k]:=by rw [List.getD_eq_getElem?_getD,List.getElem?_eq_getElem hk]; rfl
 have e4:stg (ext n M b) (ps.take k) ps[k].1 n = sdF n M b ps ps[k].1:=by
  rw [← sd_own h hk,sdF_left (row_at h.rows hk)]
 have hz:stg M (ps.take k) ps[k].1 ps[k].2 ≠ 0:=by
  have:=pivs_take h.piv (k + 1)
  rw [take_snoc hk] at this
  exact ((Ba.pivs_snoc _ _ M 1).1 this).2
 unfold remF
 rw [e2,e3,← e4,e,Int.mul_tdiv_cancel_left _ hz]
theorem isum_lim {m:Nat→Nat→Int} {i p:Nat}:∀ {l:List Nat},(∀ c ∈ l,(m i c * X c).natAbs≤p)→(isum m X i l).natAbs≤l.length * p:=by
 intro l
 induction l with
 | nil => intro _; exact Nat.zero_le _
 | cons a t ih =>
  intro h
  have h1:=h a (List.mem_cons_self ..)
  have h2:=ih fun c hc => h c (List.mem_cons_of_mem _ hc)
  show (m i a * X a + isum m X i t).natAbs≤(t.length + 1) * p
  rw [Nat.add_mul,Nat.one_mul]
  omega
theorem remF_lim (h:Fits n M ps) (hl:ps.length = n) (hn:n≤48) (hL:limbs≤32) (hs:facS n limbs M = (ps,0)) (hb:∀ i,i < n→(sdF n M b ps i).natAbs < W32) {k:Nat} (hk:k < ps.length) {t:Nat}
  (hX:∀ j (hj:j < ps.length),k < j→j < k + 1 + t→(X ps[j].2).natAbs < W32):(remF M b n ps X k t).natAbs < 65536 ^ 200:=by
 have e3:ps.getD k (0,0) = ps[k]:=by rw [List.getD_eq_getElem?_getD,List.getElem?_eq_getElem hk]; rfl
 have hlt:=h.lt _ (List.getElem_mem hk)
 have a1:=mul_nat (Bp.last_lim h hl hs hL (by omega)) (hb ps[k].1 hlt.1)
 have a2:(isum (stg M (ps.take k)) X ps[k].1 (((ps.drop (k + 1)).take t).map Prod.snd)).natAbs≤(((ps.drop (k + 1)).take t).map Prod.snd).length * (W32 * W32):=by
  refine isum_lim fun c hc => ?_
  obtain ⟨p,hp,rfl⟩:=List.mem_map.1 hc
  obtain ⟨i,hi,rfl⟩:=List.mem_iff_getElem.1 hp
  rw [List.getElem_take,List.getElem_drop]
  have hi2:i < t∧k + 1 + i < ps.length:=by
   rw [List.length_take,List.length_drop] at hi
   omega
  refine mul_nat ?_ (hX _ hi2.2 (by omega) (by omega))
  exact narrow_all (pivs_take h.piv k) hL ((fac_wide n [] hs).2 k (Nat.zero_le _) (by omega)) hlt.1 (h.lt _ (List.getElem_mem hi2.2)).2 (row_at h.rows hk)
 have a3:(((ps.drop (k + 1)).take t).map Prod.snd).length≤48:=by
  rw [List.length_map,List.length_take,List.length_drop]
  omega
 have a4:=Nat.mul_le_mul_right (W32 * W32) a3
 unfold remF
 rw [e3]
 have a5:49 * (W32 * W32) < 65536 ^ 200:=by unfold W32; decide
 omega
theorem piv_ne (h:Fits n M ps) {k:Nat} (hk:k < ps.length):stg M (ps.take k) ps[k].1 ps[k].2 ≠ 0:=by
 have:=pivs_take h.piv (k + 1)
 rw [take_snoc hk] at this
 exact ((Ba.pivs_snoc _ _ M 1).1 this).2
theorem sdL_of (h:Fits n M ps):∀ k,k≤ps.length→sdW n limbs M b ps k = true→∃ t,t≤k∧sdL n limbs M b ps t = true:=by
 intro k hk hw
 obtain ⟨i,hi,hz⟩:=anyB_ex.1 (show anyB (fun j => wideZ limbs (sdF n M b (ps.take k) j)) n = true from hw)
 by_cases e:i ∈ (ps.take k).map Prod.fst
 ·
  obtain ⟨p,hp,e2⟩:=List.mem_map.1 e
  obtain ⟨t,ht,e3⟩:=List.mem_iff_getElem.1 hp
  rw [List.getElem_take] at e3
  have ht2:t < k∧t < ps.length:=by rw [List.length_take] at ht; omega
  refine ⟨t,by omega,anyB_ex.2 ⟨i,hi,?_⟩⟩
  have e4:ps[t].1 = i:=by rw [e3]; exact e2
  have hl:leftR (ps.take t) i = true:=leftR_iff.2 (by rw [← e4]; exact row_at h.rows ht2.2)
  rw [hl,Bool.true_and]
  have e5:sdF n M b (ps.take k) i = sdF n M b (ps.take t) i:=by
   have e7:(ps.take k).takeWhile (fun p => p.1 != i) = ps.take t:=by
    rw [tw_at (k:=t) (by rw [List.map_take]; exact List.Nodup.sublist (List.take_sublist ..) h.rows) (by rw [List.length_take]; omega) (by rw [List.getElem_take]; exact e4),List.take_take,Nat.min_eq_left (by omega)]
   unfold sdF
   rw [e7,tw_all (leftR_iff.1 hl)]
  rw [← e5]
  exact hz
 ·
  exact ⟨k,Nat.le_refl k,anyB_ex.2 ⟨i,hi,by rw [leftR_iff.2 e,Bool.true_and]; exact hz⟩⟩
theorem sdL_w {k:Nat} (h:sdL n limbs M b ps k = true):sdW n limbs M b ps k = true:=by
 obtain ⟨i,hi,hz⟩:=anyB_ex.1 (show anyB (fun i => leftR (ps.take k) i && wideZ limbs (sdF n M b (ps.take k) i)) n = true from h)
 rw [Bool.and_eq_true] at hz
 exact anyB_ex.2 ⟨i,hi,hz.2⟩
end
end Bp
end Go.Proofs.YtdcgdpbgnijnpaaGreat

namespace Go.Proofs.YtdcgdpbgnijnpaaGreat
open Go.RowKit
open V (RowL RowL.alloc RowL.lt RowL.cell RowL.fz RowL.kept RowL.block RowL.set RowL.far)
open Sp (hid own_kept own_keptK own_row own_shape info_parts bestOf rO cO)
open Ba (stg lastP pivs leftR leftC wideZ wideM nz facGo facS Fits leftR_iff leftC_iff stg_snoc stg_exact stg_col last_ne)
open Bm (MxR mxr_kept mOk)
open Sy
namespace Bp
def FtrIs (L:List LE) (n:Nat) (limbs:Int) (w:World) (e:Ending) (w':World):Prop :=
 Kept w w'∧((mOk L = false∧e = .returned (.tuple #[.slice none 0 0,.int .i64 130])) ∨
  (mOk L = true∧(limbs < 1 ∨ 32 < limbs)∧e = .returned (.tuple #[.slice none 0 0,.int .i64 1])) ∨
  (mOk L = true∧(1≤limbs∧limbs≤32)∧∃ ps er v,facS n limbs.toNat (matF L) = (ps,er)∧e = .returned (.tuple #[v,.int .i64 er])∧SgR (fun q => q < w.heap.size) n (matF L) ps w' v))
theorem SgO.kx {A T:Nat→Prop} {P n:Nat} {M:Nat→Nat→Int} {ps:List (Nat × Nat)} {w w':World} {v:Value} (h:SgO A P n M ps w v) (k:KX T w w') (hT:∀ q,T q→A q):SgO A P n M ps w' v:=by
 obtain ⟨xs,ho,hA,hx⟩:=h
 refine ⟨xs,own_kept ho fun b hb => k.block b (World.ownsRow.lt ho b hb).2 fun ht => hA b hb (hT b ht),hA,fun j hj => ?_⟩
 obtain ⟨h1,h2,so,sc,h3,h4⟩:=hx j hj
 exact ⟨h1,h2,so,sc,h3,h4.kx (k.mono fun q hq => .inl (hT q hq))⟩
theorem DX.up {A:Nat→Prop} {K G:Nat} {W W4:World} {v u:Value} {s:Bool} {z:Int} (h:DX (fun x => A x ∨ v.ownBlock = some x) K W s u z) (hg:W.grownBy W4 v.ownBlock) (hG:v.ownBlock = some G ∨ G = W.heap.size):DX (fun x => A x ∨ G = x) K W4 s u z:=by
 refine DX.mono (A:=fun x => A x ∨ v.ownBlock = some x ∨ x = G) (DX.kx (w:=W) ?_ ((KX.grown hg).mono fun q hq => .inr (.inl hq.symm))) (fun q hq => ?_) (Nat.le_refl _)
 ·
  refine h.add.mono (fun q hq => ?_) (Nat.le_refl _)
  rcases hq with hq | hq | rfl
  ·
   exact .inl (.inl hq)
  ·
   exact .inl (.inr hq)
  ·
   rcases hG with e | e
   ·
    exact .inl (.inr e)
   ·
    exact .inr (by omega)
 ·
  rcases hq with hq | hq
  ·
   exact .inl hq
  ·
   exact .inr (.inr hq.symm)
theorem MNA.lim {A:Nat→Prop} {K m n:Nat} {F:Nat→Nat→Int} {w:World} {ao:Option Addr} {cap:Nat} (h:MNA A K m F w (.slice ao n cap) n):∀ i,i < n→∀ j,j < m→(F i j).natAbs < 65536 ^ K:=fun i hi j hj => by
 obtain ⟨b,off,ra,rc,_,_,_,hr⟩:=h.at hi
 obtain ⟨_,_,s,so,sk,sc,_,_,_,_,hd,hk⟩:=hr.at hj
 exact nis_abs hd.1 hk
theorem own_eq {G n cap x:Nat} (h:Value.ownBlock (.slice (some ⟨G,0,none⟩) n cap) = some x):G = x:=by simpa [Value.ownBlock] using h
def Ap (w:World) (p:Nat):Nat→Prop:=fun x => x < w.heap.size ∨ x = p
structure FtS (w wr:World) (n lm:Nat) (M:Nat→Nat→Int) (ps:List (Nat × Nat)) (v6 v11:Value) (g8 g9 pq:Nat):Prop where
 kept:Kept w wr
 fits:Fits n M ps
 fac:facGo n lm M (n - ps.length) ps = facS n lm M
 mat:MNA (fun x => Ap w pq x ∨ v11.ownBlock = some x) 144 n (mF M ps) wr v6 n
 left:BLs wr (some ⟨g8,0,none⟩) n (leftR ps)
 opn:BLs wr (some ⟨g9,0,none⟩) n (leftC ps)
 lst:SgO (Ap w pq) w.heap.size n M ps wr v11
 q:∃ s ao k cap,RowL 51 wr pq [.bool s,.slice ao k cap]∧DX (fun x => Ap w pq x ∨ v11.ownBlock = some x) 144 wr s (.slice ao k cap) (lastP M ps)
 old:w.heap.size≤pq
 far:0 < n→∀ x,(v11.ownBlock = some x ∨ x = pq)→x ≠ g8∧x ≠ g9
def lenV (v:Value):Nat:=match v with | .slice _ k _ => k | _ => 0
theorem und_rstages:Tryz.prog.underlying 31 = some (.slice 47):=by kernel_rfl
theorem info_rstage:(Tryz.prog.info? 47).map (fun i => (i.zero,i.size,i.bytes)) = some (some (.agg #[.int .i64 0,.int .i64 0,.slice none 0 0]),3,40):=by kernel_rfl
theorem cell3 (w:World) (t:TypeId) (a b c:Value):∀ j u,[a,b,c][j]? = some u→(w.alloc (.cells #[a,b,c] t)).cell? ((⟨w.heap.size,0,none⟩:Addr).add j) = some u:=by
 intro j u hu
 have r:=RowL.alloc t w [a,b,c]
 match j,hu with
 | 0,hu => cases hu; exact r.cell 0 _
 | 1,hu => cases hu; exact r.cell 1 _
 | 2,hu => cases hu; exact r.cell 2 _
theorem SgR.mono {A A':Nat→Prop} {n:Nat} {M:Nat→Nat→Int} {ps:List (Nat × Nat)} {w:World} {v:Value} (h:SgR A n M ps w v) (hA:∀ q,A' q→A q):SgR A' n M ps w v:=by
 obtain ⟨ao,cap,rfl,h⟩:=h
 refine ⟨ao,cap,rfl,fun h0 => ?_⟩
 obtain ⟨b,rfl,hb,hn,hc⟩:=h h0
 refine ⟨b,rfl,hb,fun h => hn (hA b h),fun j hj => ?_⟩
 obtain ⟨h1,h2,so,sc,h3,h4⟩:=hc j hj
 exact ⟨h1,h2,so,sc,h3,h4.mono hA (Nat.le_refl _)⟩
section
variable {n lm:Nat} {M:Nat→Nat→Int} {ps:List (Nat × Nat)}
theorem fac_end13 (h:wideM n lm (stg M ps) ps = true):facGo n lm M (n - ps.length) ps = (ps,13):=by
 cases n - ps.length with
 | zero => unfold facGo; rw [h,if_pos rfl]
 | succ k => unfold facGo; rw [h,if_pos rfl]
theorem fac_end0 (h:wideM n lm (stg M ps) ps = false) (hl:ps.length = n):facGo n lm M (n - ps.length) ps = (ps,0):=by
 rw [hl,Nat.sub_self]
 unfold facGo
 rw [h,if_neg (by decide)]
theorem fac_none (h:wideM n lm (stg M ps) ps = false) (hl:ps.length < n) (hb:bestOf n (nz (stg M ps) ps) = none):facGo n lm M (n - ps.length) ps = (ps,140):=by
 obtain ⟨k,hk⟩:∃ k,n - ps.length = k + 1:=⟨n - ps.length - 1,by omega⟩
 rw [hk]
 unfold facGo
 rw [h,if_neg (by decide),hb]
theorem fac_some {p:Nat × Nat} (h:wideM n lm (stg M ps) ps = false) (hl:ps.length < n) (hb:bestOf n (nz (stg M ps) ps) = some p):facGo n lm M (n - ps.length) ps = facGo n lm M (n - (ps ++ [p]).length) (ps ++ [p]):=by
 obtain ⟨k,hk⟩:∃ k,n - ps.length = k + 1:=⟨n - ps.length - 1,by omega⟩
 have e:n - (ps ++ [p]).length = k:=by rw [List.length_append,List.length_singleton]; omega
 rw [hk,e]
 conv => lhs; unfold facGo
 rw [h,if_neg (by decide),hb]
end
set_option maxRecDepth 100000 in
set_option maxHeartbeats 40000000 in
theorem factored14_any (ao:Option Addr) (n c:Nat) (limbs:Int) (L:List LE) (w:World) (h:MxR w ao L) (hl:n = L.length) (hr:∀ l ∈ L,l.cs.length≤1000000) (hn:n≤1000000) (hb1:-9223372036854775808≤limbs) (hb2:limbs≤9223372036854775807) :
  Calls Tryz.prog 8 #[.slice ao n c,.int .i64 limbs] w (FtrIs L n limbs w):=by
 obtain ⟨Q,hQ⟩:∃ Q,Q = FtrIs L n limbs w:=⟨_,rfl⟩
 rw [← hQ]
 have HQ:=hid hQ
 clear hQ
 have hft:=Bm.fault_any ao n c L w h hl hn hr
 have HL:=hid (And.intro h (And.intro hl hr))
 clear h hl hr
 obtain ⟨ok,hok⟩:∃ x,x = mOk L:=⟨_,rfl⟩
 rw [← hok] at hft
 have HO:=hid hok
 clear hok
 go_enter Tryz.func8,Tryz.ntmps8
 --%A
 go_wp2_with fail
 refine hft.mono ?_
 rintro e w1 ⟨hk1,rfl⟩
 have HK1:=hid hk1
 clear hft hk1
 cases ok with
 | false =>
  --%B
  go_wp2_with fail
  rw [HQ.out]
  exact ⟨HK1.out,.inl ⟨HO.out.symm,rfl⟩⟩
 | true =>
 by_cases hlo:limbs < 1
 ·
  --%C
  go_wp2_with fail
  rw [HQ.out]
  exact ⟨HK1.out,.inr (.inl ⟨HO.out.symm,.inl hlo,rfl⟩)⟩
 by_cases hhi:32 < limbs
 ·
  --%D
  go_wp2_with fail
  rw [HQ.out]
  exact ⟨HK1.out,.inr (.inl ⟨HO.out.symm,.inr hhi,rfl⟩)⟩
 obtain ⟨i0,hi0,hz0,hz1,hz2⟩:=info_parts info_rstage
 obtain ⟨lm,rfl⟩:∃ lm:Nat,limbs = (lm:Int):=⟨limbs.toNat,by omega⟩
 have hsq:=square14_new ao n c L w1 (mxr_kept HL.out.1 HK1.out) HL.out.2.1 HO.out.symm
 --%E
 go_wp2_with fail
 refine hsq.mono ?_
 rintro e w2 ⟨hk2,so,sc,rfl,hm⟩
 have HK2:=hid (HK1.out.trans hk2)
 have HM:=hid (hm.mono (A':=fun q => q < w.heap.size) (fun q hq => Nat.lt_of_lt_of_le hq HK1.out.size) (Nat.le_refl _))
 have hn48:n≤48:=by
  have h1:=HO.out.symm
  unfold mOk at h1
  rw [Bool.and_eq_true,decide_eq_true_eq] at h1
  rw [HL.out.2.1]
  exact h1.1
 have ha1:=all14_any n (by omega) w2
 clear hsq hk2 hm
 --%F
 go_wp2_with fail
 refine ha1.mono ?_
 rintro e w3 ⟨hk3,g1,hg1,rfl,hb1'⟩
 have ha2:=all14_any n (by omega) w3
 go_wp2_with fail
 refine ha2.mono ?_
 rintro e w4 ⟨hk4,g2,hg2,rfl,hb2'⟩
 have HK4:=hid (HK2.out.trans (hk3.trans hk4))
 have HM4:=hid (HM.out.kept (hk3.trans hk4))
 have HB1:=hid (hb1'.kept hk4)
 have HB2:=hid hb2'
 have hsm:=D.Small_new 1 w4 (by decide)
 clear ha1 ha2 hk3 hk4 hb1' hb2' hg1 hg2
 --%G
 go_wp2_with fail
 refine hsm.mono ?_
 rintro e w5 ⟨hk5,qo,qk,qc,ql,rfl,hq1,hq2,hq3,hq4,hq5⟩
 have HQ1:=hid (show D.NIs w5 false (.slice qo qk qc) 1 from ⟨ql,hq1,⟨hq1.bd,hq2,fun _ => rfl⟩,by unfold D.int; rw [hq3]; rfl⟩)
 have HQD:=hid (dx_new (A:=fun x => x < w.heap.size) (K:=144) HQ1.out (by have:=dsl_len hq1; omega) hq5 (fun x hx => Nat.lt_of_lt_of_le hx HK4.out.size))
 have hqk:qk≤144:=by have:=dsl_len hq1; omega
 have rq:=RowL.alloc 51 w5 [.bool false,.slice qo qk qc]
 have kq:=(Kept.refl w5).alloc (.cells #[.bool false,.slice qo qk qc] 51)
 obtain ⟨pq,hpq⟩:∃ p,p = w5.heap.size:=⟨_,rfl⟩
 rw [← hpq] at rq
 have HN:=hid (show ∀ x:Nat,x = pq→w4.heap.size≤x∧w5.heap.size≤x from fun x hx => by
  have:=hk5.size
  omega)
 --%H
 go_wp2_with fail
 rw [← hpq]
 clear hpq
 change RowL 51 (w5.alloc (.cells #[.bool false,.slice qo qk qc] 51)) pq _ at rq
 generalize w5.alloc (.cells #[.bool false,.slice qo qk qc] 51) = w6 at rq kq ⊢
 have HS:=hid (show FtS w w6 n lm (matF L) [] (.slice so n sc) (.slice none 0 0) g1 g2 pq from
  {kept:=HK4.out.trans (hk5.trans kq)
   fits:=Fits.nil n _
   fac:=rfl
   mat:=((HM4.out.add.kept (hk5.trans kq)).mono (fun x hx => by
    rcases hx with (hx | hx) | hx
    ·
     exact .inl hx
    ·
     exact .inr (HN.out x hx).1
    ·
     cases hx) (Nat.le_refl _))
   left:=HB1.out.kept (hk5.trans kq)
   opn:=HB2.out.kept (hk5.trans kq)
   lst:=SgO.nil _ _ _ _ _
   q:=⟨false,qo,qk,qc,rq,(HQD.out.add.kept kq).mono (fun x hx => by
    rcases hx with (hx | hx) | hx
    ·
     exact .inl hx
    ·
     exact .inr (HN.out x hx).2
    ·
     cases hx) (Nat.le_refl _)⟩
   old:=by have:=HK4.out.size; have:=HN.out pq rfl; omega
   far:=fun h0 x hx => by
    have h1:=HB1.out.blt h0
    have h2:=HB2.out.blt h0
    rcases hx with hx | hx
    ·
     cases hx
    ·
     have:=(HN.out x hx).1
     omega })
 clear rq kq hk5 HQ1 hsm hq1 hq2 hq3 hq4 hq5
 --%I
 go_loopw [6,8,9,11] (fun v6 v8 v9 v11 wr => ∃ (ps:List (Nat × Nat)) (so:Option Addr) (sc g8 c8 g9 c9:Nat) (lo:Option Addr) (lc:Nat),v6 = .slice so n sc∧v8 = .slice (some ⟨g8,0,none⟩) n c8∧v9 = .slice (some ⟨g9,0,none⟩) n c9∧v11 = .slice lo ps.length lc∧ps.length≤n∧Hid (FtS w wr n lm (matF L) ps (.slice so n sc) (.slice lo ps.length lc) g8 g9 pq)) (fun _ _ _ v11 _ => n - lenV v11)
 case atStart => exact ⟨[],so,sc,g1,_,g2,_,none,0,rfl,rfl,rfl,rfl,Nat.zero_le _,HS.out⟩
 case round =>
  clear HS HB1 HB2 HM4 HQD
  obtain ⟨ps,so,sc,g8,c8,g9,c9,lo,lc,rfl,rfl,rfl,rfl,hln,H⟩:=hrel
  generalize wr = w7 at H ⊢
  have hwd:=widein14_any so (some ⟨g8,0,none⟩) (some ⟨g9,0,none⟩) n sc c8 c9 lm 144 (mF (matF L) ps) (leftR ps) (leftC ps) w7 H.out.mat.mn H.out.left H.out.opn (by omega) (by omega)
  rw [mF_wide] at hwd
  obtain ⟨wd,hwdd⟩:∃ b,b = wideM n lm (stg (matF L) ps) ps:=⟨_,rfl⟩
  rw [← hwdd] at hwd
  have HW:=hid hwdd
  clear hwdd
  --%J
  go_wp2_with fail
  refine hwd.mono ?_
  rintro e w8 ⟨hk8,rfl⟩
  have HK8:=hid hk8
  clear hwd hk8
  cases wd with
  | true =>
   --%K
   go_wp2_with fail
   rw [HQ.out]
   refine ⟨H.out.kept.trans HK8.out,.inr (.inr ⟨HO.out.symm,⟨by omega,by omega⟩,ps,13,_,?_,rfl,((H.out.lst.kept HK8.out).sgr.mono fun x hx => .inl hx)⟩)⟩
   rw [Int.toNat_natCast,← H.out.fac]
   exact fac_end13 HW.out.symm
  | false =>
  by_cases hfull:ps.length = n
  ·
   have hf1:(ps.length:Int) = (n:Int):=by omega
   --%L
   go_wp2_with fail
   rw [HQ.out]
   have hs:=(H.out.lst.kept HK8.out).sgr.mono (A':=fun x => x < w.heap.size) fun x hx => .inl hx
   rw [show Value.slice lo ps.length lc = Value.slice lo n lc by rw [hfull]] at hs
   refine ⟨H.out.kept.trans HK8.out,.inr (.inr ⟨HO.out.symm,⟨by omega,by omega⟩,ps,0,_,?_,rfl,hs⟩)⟩
   rw [Int.toNat_natCast,← H.out.fac]
   exact fac_end0 HW.out.symm hfull
  have hf1:¬ (ps.length:Int) = (n:Int):=by omega
  have hpl:=places14_any so (some ⟨g8,0,none⟩) (some ⟨g9,0,none⟩) n sc c8 c9 144 (mF (matF L) ps) (leftR ps) (leftC ps) w8 (H.out.mat.mn.kept HK8.out) (H.out.left.kept HK8.out) (H.out.opn.kept HK8.out) (by omega) (by omega)
  rw [mF_nz] at hpl
  --%M
  go_wp2_with fail
  refine hpl.mono ?_
  rintro e w9 ⟨hk9,pv,rfl,hmu⟩
  have HK9:=hid (HK8.out.trans hk9)
  obtain ⟨po,pc,rfl⟩:∃ po pc,pv = .slice po n pc:=by
   obtain ⟨_,_,ho,_⟩:=hmu
   exact own_shape ho
  have hch:=Sp.choose_any po n pc _ w9 hmu.mat hn48
  obtain ⟨bb,hbb⟩:∃ x,x = bestOf n (nz (stg (matF L) ps) ps):=⟨_,rfl⟩
  rw [← hbb] at hch
  have HBB:=hid hbb
  clear hbb hpl hk9 hmu
  --%N
  go_wp2_with fail
  refine hch.mono ?_
  rintro e w10 ⟨rfl,rfl⟩
  clear hch
  cases bb with
  | none =>
   --%O
   simp only [Option.isSome_none]
   go_wp2_with fail
   rw [HQ.out]
   refine ⟨H.out.kept.trans HK9.out,.inr (.inr ⟨HO.out.symm,⟨by omega,by omega⟩,ps,140,_,?_,rfl,((H.out.lst.kept HK9.out).sgr.mono fun x hx => .inl hx)⟩)⟩
   rw [Int.toNat_natCast,← H.out.fac]
   exact fac_none HW.out.symm (by omega) HBB.out.symm
  | some p =>
  obtain ⟨r,c'⟩:=p
  simp only [Option.isSome_some,rO,cO]
  have hfs:=H.out.fits.snoc HBB.out.symm
  have hlt:=hfs.1.lt (r,c') (List.mem_append_right _ (List.mem_singleton.2 rfl))
  have HF:=hid hfs
  have hrn:r < n:=hlt.1
  have hcn:c' < n:=hlt.2
  obtain ⟨xs,ho,hv,hx⟩:=H.out.lst.kept HK9.out
  have HX:=hid (And.intro ho (And.intro hv hx))
  have hws:w.heap.size≤w10.heap.size:=(H.out.kept.trans HK9.out).size
  clear hfs hlt ho hv hx
  --%P
  go_wp2_with (at_builtin; refine wpList_append_lies _ rfl (.tmp 57) (.tmp 62) 31 rfl w.heap.size 47 i0 (.agg #[.int .i64 0,.int .i64 0,.slice none 0 0]) 3 40 und_rstages hi0 hz0 hz1 hz2 rfl (by decide) (.slice lo ps.length lc) ps.length xs rfl (by exact World.ownsRow.alloc HX.out.1 _) ⟨w10.heap.size,0,none⟩ 1 1 [.int .i64 (r:Int),.int .i64 (c':Int),.slice so n sc] rfl rfl (cell3 w10 _ _ _ _) (fun u hu => by simp at hu; rcases hu with rfl | rfl | rfl <;> rfl) (by omega) (by unfold maxLen; omega) (by omega) (by simp; omega) _ rfl ?_)
  intro G cap w11 hO hgr hG _
  have kA:=(Kept.refl w10).alloc (.cells #[.int .i64 (r:Int),.int .i64 (c':Int),.slice so n sc] 47)
  have hOw:=World.ownsRow.alloc HX.out.1 (.cells #[.int .i64 (r:Int),.int .i64 (c':Int),.slice so n sc] 47)
  have hG:(Value.slice lo ps.length lc).ownBlock = some G ∨ G = (w10.alloc (.cells #[.int .i64 (r:Int),.int .i64 (c':Int),.slice so n sc] 47)).heap.size:=hG.imp id fun e => by rw [alloc_sz]; exact e
  generalize w10.alloc (.cells #[.int .i64 (r:Int),.int .i64 (c':Int),.slice so n sc] 47) = W5 at kA hgr hOw hG
  have K5:=HK9.out.trans kA
  have KW:Kept w w11:=Below.grown (H.out.kept.trans K5) hgr (H.out.kept.trans K5).size (fun x hx => (World.ownsRow.lt hOw x hx).1)
  obtain ⟨sq,qo',qk',qc',rq,dq⟩:=H.out.q
  have hA5:∀ x,Ap w pq x→x < W5.heap.size:=fun x hx => by
   have h1:=rq.lt
   have h2:=K5.size
   have h3:=(H.out.kept.trans K5).size
   rcases hx with hx | hx
   ·
    exact Nat.lt_of_lt_of_le hx h3
   ·
    omega
  have hsn:=SgO.snoc (A:=Ap w pq) (M:=matF L) hA5 xs HX.out.1.1 HX.out.2.1 (fun j hj => by
   obtain ⟨h1,h2,so,sc,h3,h4⟩:=HX.out.2.2 j hj
   exact ⟨h1,h2,so,sc,h3,h4.kept kA⟩) (H.out.mat.kept K5) hO hgr hG
  have kg:KX (fun x => (Value.slice lo ps.length lc).ownBlock = some x) W5 w11:=(KX.grown hgr).mono fun x hx => hx.symm
  have rq1:=row_kx (rq.kept K5) kg fun h => HX.out.2.1 pq h (.inr rfl)
  have dq1:=(dq.kept K5).up hgr hG
  have hl1:BLs w11 (some ⟨g8,0,none⟩) n (leftR ps):=(H.out.left.kept K5).kx kg fun h0 h => (H.out.far h0 g8 (.inl h)).1 rfl
  have hc1:BLs w11 (some ⟨g9,0,none⟩) n (leftC ps):=(H.out.opn.kept K5).kx kg fun h0 h => (H.out.far h0 g9 (.inl h)).2 rfl
  have hGl:G < w11.heap.size∧w.heap.size≤G:=⟨(World.ownsRow.lt hO G rfl).2,(World.ownsRow.lt hO G rfl).1⟩
  have hpl:pq < w11.heap.size:=rq1.lt
  have HS:=hid (And.intro KW (And.intro hsn.1 (And.intro hsn.2 (And.intro rq1 (And.intro dq1 (And.intro hGl hpl))))))
  have hm1:=marked14_any (some ⟨g8,0,none⟩) n c8 r (leftR ps) w11 hl1 (by omega) hrn
  rw [show (fun j => leftR ps j && decide (j ≠ r)) = leftR (ps ++ [(r,c')]) from funext fun j => leftR_snoc.symm] at hm1
  have HC1:=hid hc1
  clear kA hOw hgr hG hO K5 KW rq dq hA5 hsn kg rq1 dq1 hl1 hc1 hGl hpl
  --%Q
  go_wp2_with fail
  refine hm1.mono ?_
  rintro e w12 ⟨hk12,g8',c8',hg8,rfl,hl2⟩
  have hm2:=marked14_any (some ⟨g9,0,none⟩) n c9 c' (leftC ps) w12 (HC1.out.kept hk12) (by omega) hcn
  rw [show (fun j => leftC ps j && decide (j ≠ c')) = leftC (ps ++ [(r,c')]) from funext fun j => leftC_snoc.symm] at hm2
  go_wp2_with fail
  refine hm2.mono ?_
  rintro e w13 ⟨hk13,g9',c9',hg9,rfl,hc2⟩
  have HK13:=hid (hk12.trans hk13)
  have HL2:=hid (And.intro (hl2.kept hk13) (And.intro hc2 (And.intro hg8 (Nat.le_trans hk12.size hg9))))
  obtain ⟨mb,mf,ra,rcp,rfl,hmb,hmc,hrd⟩:=HS.out.2.2.1.at hrn
  obtain ⟨b3,o3,sp,zo,zk,zc,rfl,hb3,_,hcb,hdx,hzk⟩:=hrd.at hcn
  have x0:=hmc w13 (KX.of HK13.out)
  have y0:=(hcb w13 (KX.of HK13.out)).1
  have y1:=(hcb w13 (KX.of HK13.out)).2
  have HD:=hid (hdx.kept HK13.out)
  clear hm1 hm2 hk12 hk13 hl2 hc2 hg8 hg9 HC1 hmc hcb hdx hrd
  have hr0:(0:Int)≤(r:Int):=by omega
  have hr1:(r:Int) < (n:Int):=by omega
  have hc0:(0:Int)≤(c':Int):=by omega
  have hc1:(c':Int) < (n:Int):=by omega
  have rp:=RowL.alloc 51 w13 [.bool sp,.slice zo zk zc]
  have kp:=(Kept.refl w13).alloc (.cells #[.bool sp,.slice zo zk zc] 51)
  have rq:=HS.out.2.2.2.1.kept HK13.out
  have q0:=(rq.kept kp).cell 0 _ rfl
  have q1:=(rq.kept kp).cell 1 _ rfl
  have HP:=hid (And.intro kp (And.intro rp (Nat.le_refl w13.heap.size)))
  obtain ⟨pp,hpp⟩:∃ p,p = w13.heap.size:=⟨_,rfl⟩
  rw [← hpp] at rp
  have HPP:=hid (show w13.heap.size≤pp by rw [hpp]; exact Nat.le_refl _)
  clear HP
  --%R
  go_wp2_with fail
  rw [← hpp]
  clear hpp
  change RowL 51 (w13.alloc (.cells #[.bool sp,.slice zo zk zc] 51)) pp _ at rp
  generalize w13.alloc (.cells #[.bool sp,.slice zo zk zc] 51) = w14 at rp kp q0 q1 ⊢
  have HK14:=hid (HK13.out.trans kp)
  have hmm:=HS.out.2.2.1.kept HK14.out
  have hlast:=hid (show lastP (matF L) (ps ++ [(r,c')]) = mF (matF L) ps r c' from by rw [(stg_snoc (matF L) ps r c').2,mF_left HF.out.2.2.1])
  have hpiv:=H.out.fits.piv
  have hnx:=next14_any (fun x => Ap w pq x ∨ G = x) (some ⟨mb,mf,none⟩) (some ⟨g8',0,none⟩) qo' n sc c8' qk' qc' 144 r c' sq (lastP (matF L) ps) (mF (matF L) ps) (leftR (ps ++ [(r,c')])) w14 (fun x hx => by
   have h1:=HK14.out.size
   have h2:=HS.out.1.size
   have h3:=HS.out.2.2.2.2.2
   rcases hx with (hx | hx) | hx <;> omega) hmm (HL2.out.1.kept kp) (HS.out.2.2.2.2.1.kept HK14.out).1 (by
   obtain ⟨_,_,_,_,e,hk,_⟩:=HS.out.2.2.2.2.1
   cases e
   omega) (last_ne hpiv) hrn hcn (by omega) (by omega) (mF_lim hpiv (by omega) HW.out.symm hrn hcn HF.out.2.2.1 hmm.lim)
  rw [show nxF (mF (matF L) ps) (leftR (ps ++ [(r,c')])) r c' (lastP (matF L) ps) = mF (matF L) (ps ++ [(r,c')]) from funext fun i => funext fun k => mF_next hpiv HF.out.2.1 HF.out.2.2.1 i k] at hnx
  have HR:=hid (And.intro rp kp)
  clear hmm hpiv q0 q1 rq rp kp x0 y0 y1
  --%S
  refine hnx.mono ?_
  rintro e w15 ⟨hk15,so',sc',rfl,hmx⟩
  have rp:=HR.out.1.kept hk15
  have p0:=rp.cell 0 _ rfl
  have p1:=rp.cell 1 _ rfl
  have rq:=HS.out.2.2.2.1.kept (HK14.out.trans hk15)
  have q0:=rq.cell 0 _ rfl
  have q1:=rq.cell 1 _ rfl
  have f0:=rq.fz 0
  have f1:=rq.fz 1
  have kx:KX (fun q => q = pq) w15 ((w15.setCell ⟨pq,0,none⟩ (.bool sp)).setCell ⟨pq,1,none⟩ (.slice zo zk zc)):=((KX.refl w15).setCell (T:=fun q => q = pq) (p:=⟨pq,0,none⟩) (.inl rfl) _).setCell (p:=⟨pq,1,none⟩) (.inl rfl) _
  have K1115:=HK14.out.trans hk15
  have hlen:(ps ++ [(r,c')]).length = ps.length + 1:=by simp
  have HN:=hid (show FtS w ((w15.setCell ⟨pq,0,none⟩ (.bool sp)).setCell ⟨pq,1,none⟩ (.slice zo zk zc)) n lm (matF L) (ps ++ [(r,c')]) (.slice so' n sc') (.slice (some ⟨G,0,none⟩) (ps.length + 1) cap) g8' g9' pq from
   {kept:=KX.kept (HS.out.1.trans K1115) kx fun x hx => by rw [hx]; exact H.out.old
    fits:=HF.out.1
    fac:=by rw [← fac_some HW.out.symm (by omega) HBB.out.symm,H.out.fac]
    mat:=((hmx.kx (kx.mono fun x hx => .inl (.inr hx))).mono (fun x hx => hx.imp id own_eq) (Nat.le_refl _))
    left:=(HL2.out.1.kept (HR.out.2.trans hk15)).kx kx fun h0 h => by have:=HL2.out.2.2.1; have:=HS.out.2.2.2.2.2; omega
    opn:=(HL2.out.2.1.kept (HR.out.2.trans hk15)).kx kx fun h0 h => by have:=HL2.out.2.2.2; have:=HS.out.2.2.2.2.2; omega
    lst:=(HS.out.2.1.kept K1115).kx kx fun x hx => .inr hx
    q:=⟨sp,zo,zk,zc,(rq.set 0 (.bool sp)).set 1 (.slice zo zk zc),by
     rw [hlast.out]
     exact ((HD.out.kept (HR.out.2.trans hk15)).kx (kx.mono fun x hx => .inl (.inr hx))).mono (fun x hx => hx.imp id own_eq) (Nat.le_refl _)⟩
    old:=H.out.old
    far:=fun h0 x hx => by
     have h1:=HL2.out.2.2.1
     have h2:=HL2.out.2.2.2
     have h3:=HS.out.2.2.2.2.2
     rcases hx with hx | hx
     ·
      have:=own_eq hx
      omega
     ·
      omega })
  clear hk15 hmx rp rq K1115 kx hnx
  --%T
  go_wp2_with fail
  go_roundw
  case rel => exact ⟨ps ++ [(r,c')],so',sc',g8',c8',g9',c9',some ⟨G,0,none⟩,cap,rfl,rfl,rfl,by rw [hlen],by rw [hlen]; omega,by rw [hlen]; exact HN.out⟩
  case measure => show n - (ps.length + 1) < n - ps.length; omega
end Bp
end Go.Proofs.YtdcgdpbgnijnpaaGreat

namespace Go.Proofs.YtdcgdpbgnijnpaaGreat
open Go.RowKit
open V (RowL RowL.alloc RowL.lt RowL.cell RowL.fz RowL.kept RowL.block RowL.set RowL.far)
open Sp (hid own_kept own_keptK own_row own_shape info_parts)
open X (zk zr zl zd region_z anyZ_ready AllZ AllZ.cons AllZ.nil)
open Ba (stg lastP pivs leftR leftC wideZ wideM nz facGo facS Fits leftR_iff leftC_iff stg_snoc stg_exact stg_col last_ne pivs_take ext)
open Sy
namespace D
set_option maxHeartbeats 1000000 in
theorem Minus_same (m:Bool) (ao:Option Addr) (n cap:Nat) (z:Int) (w:World) (h:NIs w m (.slice ao n cap) z) (hn:n≤100000000) :
  Calls Tryz.prog 72 #[.agg #[.bool m,.slice ao n cap]] w fun e w' => Kept w w'∧∃ s ao' cap',e = .returned (.agg #[.bool s,.slice ao' n cap'])∧NIs w' s (.slice ao' n cap') (-z)∧(0 < n→ao' = ao):=by
 obtain ⟨l,hsl,hr,hi⟩:=h
 have hlen:n = l.length:=by
  obtain ⟨_,_,_,hv,_⟩:=hsl
  simp only [Value.slice.injEq] at hv
  exact hv.2.1
 by_cases h0:n = 0
 ·
  subst h0
  have e:l = []:=List.length_eq_zero_iff.1 hlen.symm
  subst e
  have hz:z = 0:=by rw [← hi]; unfold int; cases m <;> simp [D.val]
  subst hz
  clear hsl hr hi hlen
  go_enter Tryz.func72,Tryz.ntmps72
  go_wp2
  exact bodyPost_ret (v:=.agg #[.bool false,.slice none 0 0]) (by simp [results,Tryz.results72,go_sem]) rfl ⟨((Kept.refl w).alloc _).alloc _,false,none,0,rfl,⟨[],Sl.nil _ _ _,⟨D.Bd_nil,.inl rfl,fun _ => rfl⟩,rfl⟩,fun h => absurd h (Nat.lt_irrefl 0)⟩
 ·
  have H:Hid (Sl w (.slice ao n cap) l∧Right (!m) l∧int (!m) l = -z):=by
   refine ⟨hsl,⟨hr.bd,hr.tr,fun e => ?_⟩,?_⟩
   ·
    rw [e] at hlen; simp at hlen; omega
   ·
    rw [← hi]; unfold int; cases m <;> simp
  clear hsl hr hi hlen
  go_enter Tryz.func72,Tryz.ntmps72
  go_wp2
  exact bodyPost_ret (v:=.agg #[.bool (!m),.slice ao n cap]) (by simp [results,Tryz.results72,go_sem]) rfl ⟨((Kept.refl w).alloc _).alloc _,_,_,_,rfl,⟨l,H.out.1.kept (((Kept.refl w).alloc _).alloc _),H.out.2⟩,fun _ => rfl⟩
end D
namespace Bp
def exE:Ending:=.returned (.tuple #[.agg #[.slice none 0 0,.bool false,.slice none 0 0],.int .i64 13])
def SldIs (n lm:Nat) (M:Nat→Nat→Int) (b:Nat→Int) (ps:List (Nat × Nat)) (w:World) (e:Ending) (w':World):Prop :=
 Kept w w'∧((((∃ k,k≤n∧sdW n lm M b ps k = true) ∨ (∃ j,j < n∧wideZ lm (bkA n M b ps j) = true))∧e = exE) ∨
  ((∀ k,k≤n→sdW n lm M b ps k = false)∧(∀ j,j < n→wideZ lm (bkA n M b ps j) = false)∧∃ xo xc s o k c,e = .returned (.tuple #[.agg #[.slice xo n xc,.bool s,.slice o k c],.int .i64 0]) ∧
   RdX (fun _ => False) 200 (fun j => if lastP M ps < 0 then -bkA n M b ps j else bkA n M b ps j) w' (.slice xo n xc) n∧D.NIs w' s (.slice o k c) (if lastP M ps < 0 then -lastP M ps else lastP M ps)∧k≤200))
theorem DX.swap {A:Nat→Prop} {K:Nat} {w w':World} {s t:Bool} {ao ao':Option Addr} {k c c':Nat} {z z':Int} (h:DX A K w s (.slice ao k c) z) (h':D.NIs w' t (.slice ao' k c') z') (e:0 < k→ao' = ao):DX A K w' t (.slice ao' k c') z':=by
 obtain ⟨_,_,_,_,e2,hk,hA⟩:=h
 cases e2
 exact ⟨h',_,_,_,rfl,hk,fun h0 b o p eb => hA h0 b o p (by rw [← e h0]; exact eb)⟩
structure SX (P pX:Nat) (w:World) (pd gx cx n:Nat) (X:Nat→Int) (d:Int):Prop where
 d:∃ s o k c,RowL 51 w pd [.bool s,.slice o k c]∧DX (fun q => q = gx ∨ q = pd ∨ q = pX) 200 w s (.slice o k c) d
 x:NO (fun q => q = pd ∨ q = pX) P 200 X w (.slice (some ⟨gx,0,none⟩) n cx) n
 pd:P≤pd
section
variable {P pX pd gx cx n:Nat} {w w':World} {X:Nat→Int} {d:Int}
theorem SX.kept (h:SX P pX w pd gx cx n X d) (k:Kept w w'):SX P pX w' pd gx cx n X d:=by
 obtain ⟨s,o,k',c,r,hd⟩:=h.d
 exact ⟨⟨s,o,k',c,r.kept k,hd.kept k⟩,h.x.kept k,h.pd⟩
theorem SX.ne (h:SX P pX w pd gx cx n X d):pd ≠ gx:=fun e => h.x.choose_spec.2.1 gx rfl (.inl e.symm)
theorem SX.setd (h:SX P pX w pd gx cx n X d) {s:Bool} {o:Option Addr} {k c:Nat} {z:Int} (hz:DX (fun q => q = gx ∨ q = pd ∨ q = pX) 200 w s (.slice o k c) z):SX P pX ((w.setCell ⟨pd,0,none⟩ (.bool s)).setCell ⟨pd,1,none⟩ (.slice o k c)) pd gx cx n X z:=by
 obtain ⟨s0,o0,k0,c0,r,_⟩:=h.d
 have kx:KX (fun q => q = pd) w ((w.setCell ⟨pd,0,none⟩ (.bool s)).setCell ⟨pd,1,none⟩ (.slice o k c)):=((KX.refl w).setCell (T:=fun q => q = pd) (p:=⟨pd,0,none⟩) (.inl rfl) _).setCell (p:=⟨pd,1,none⟩) (.inl rfl) _
 exact ⟨⟨s,o,k,c,(r.set 0 (.bool s)).set 1 (.slice o k c),hz.kx (kx.mono fun q hq => .inr (.inl hq))⟩,h.x.kx kx fun q hq => .inl hq,h.pd⟩
theorem SX.setx (h:SX P pX w pd gx cx n X d) {j:Nat} (hj:j < n) {s:Bool} {o:Option Addr} {k c:Nat} {z:Int} (hz:DX (fun q => (q = pd ∨ q = pX) ∨ q = gx) 200 w s (.slice o k c) z):SX P pX ((w.setCell ⟨gx,j * 2,none⟩ (.bool s)).setCell ⟨gx,j * 2 + 1,none⟩ (.slice o k c)) pd gx cx n (upd X j z) d:=by
 obtain ⟨s0,o0,k0,c0,r,hd⟩:=h.d
 have kx:=put_kx (w:=w) (g:=gx) (j:=j) (.bool s) (.slice o k c)
 exact ⟨⟨s0,o0,k0,c0,row_kx r kx h.ne,hd.kx (kx.mono fun q hq => .inl hq)⟩,h.x.put hj hz,h.pd⟩
theorem SX.congr (h:SX P pX w pd gx cx n X d) {Y:Nat→Int} (e:∀ j,j < n→X j = Y j):SX P pX w pd gx cx n Y d:=⟨h.d,h.x.congr e,h.pd⟩
theorem SX.lt (h:SX P pX w pd gx cx n X d):pd < w.heap.size∧P≤gx:=by
 obtain ⟨s0,o0,k0,c0,r,_⟩:=h.d
 exact ⟨r.lt,h.x.lt.1⟩
end
theorem sld_done {n lm pX pd gx cx:Nat} {M:Nat→Nat→Int} {b:Nat→Int} {ps:List (Nat × Nat)} {w W0 w3:World} {X:Nat→Int} {z:Int} {s:Bool} {o:Option Addr} {k c:Nat}
  (hX:∀ j,j < n→X j = if lastP M ps < 0 then -bkA n M b ps j else bkA n M b ps j) (hz:z = if lastP M ps < 0 then -lastP M ps else lastP M ps)
  (HW:(∀ k,k≤n→sdW n lm M b ps k = false)∧(∀ j,j < n→wideZ lm (bkA n M b ps j) = false))
  (HB:Kept w W0∧RowL 94 W0 pX [.slice none 0 0,.bool false,.slice none 0 0]∧w.heap.size≤pX) (hk:Kept W0 w3) (hS:SX W0.heap.size pX w3 pd gx cx n X z) (hd:DX (fun q => q = gx ∨ q = pd ∨ q = pX) 200 w3 s (.slice o k c) z) :
  SldIs n lm M b ps w (.returned (.tuple #[.agg #[.slice (some ⟨gx,0,none⟩) n cx,.bool s,.slice o k c],.int .i64 0])) (((w3.setCell ⟨pX,0,none⟩ (.slice (some ⟨gx,0,none⟩) n cx)).setCell ⟨pX,1,none⟩ (.bool s)).setCell ⟨pX,2,none⟩ (.slice o k c)):=by
 have kx:KX (fun q => q = pX) w3 (((w3.setCell ⟨pX,0,none⟩ (.slice (some ⟨gx,0,none⟩) n cx)).setCell ⟨pX,1,none⟩ (.bool s)).setCell ⟨pX,2,none⟩ (.slice o k c)):=(((KX.refl w3).setCell (T:=fun q => q = pX) (p:=⟨pX,0,none⟩) (.inl rfl) _).setCell (p:=⟨pX,1,none⟩) (.inl rfl) _).setCell (p:=⟨pX,2,none⟩) (.inl rfl) _
 refine ⟨KX.kept (HB.1.trans hk) kx fun q hq => by rw [hq]; exact HB.2.2,.inr ⟨HW.1,HW.2,_,_,_,_,_,_,rfl,?_,?_,?_⟩⟩
 ·
  exact (((hS.x.kx kx fun q hq => .inr hq).rdx.mono (fun q hq => hq.elim) (Nat.le_refl _)).congr hX)
 ·
  rw [← hz]
  exact (hd.kx (kx.mono fun q hq => .inr (.inr hq))).1
 ·
  obtain ⟨_,_,_,_,e,hk,_⟩:=hd
  cases e
  exact hk
set_option maxRecDepth 100000 in
set_option maxHeartbeats 80000000 in
theorem sld_tail3 {lo bo:Option Addr} {n lc bc lm pX pd gx cx:Nat} {M:Nat→Nat→Int} {b:Nat→Int} {ps:List (Nat × Nat)} {w W0 w3:World} {u3 u4 u5 u7 u9 u10 u11 u12 u13 u14 u15 u16 u17 u18 u21 u22 u23 u24 u25 u26 u27 u28 u29 u30 u31 u32 u33 u34 u35 u36 u37 u38 u39 u40 u41 u42 u43 u44 u45 u46 u47 u48 u49 u50 u51 u52 u53 u54 u55 u56 u57 u58 u59 u60 u61 u62 u63 u64 u65 u66 u67 u68 u69 u70 u71 u72 u73 u74 u75 u76 u77 u78 u79 u80 u81 u82 u83 u84 u85 u86 u87 u88 u89 u90 u91 u92 u93 u94 u95 u96 u97 u98 u99 u100 u101 u102 u103 u104 u105 u106 u107 u108 u109 u110 u111 u112 u113 u114 u115 u116 u117 u118 u119 u120 u121 u122 u123 u124 u125 u126 u127 u128 u129 u130 u131 u132 u133 u134 u135 u136 u137 u138 u139 u140 u141 u142 u143 u144 u145 u146 u147 u148 u149 u150 u151 u152 u153 u154 u155 u156 u157 u158 u159 u160 u161 u162 u163 u164 u165 u166 u167 u168 u169 u170 u171 u172 u173 u174 u175 u176 u177 u178 u179 u180 u181 u182 u183 u184 u185 u186 u187 u188 u189 u190 u191 u192 u193 u194 u195 u196 u197 u198 u199 u200 u201 u202 u203 u204 u205 u206 u207 u208 u209 u210 u211 u212 u213 u214 u215 u216 u217 u218 u219 u220 u221 u222 u223 u224 u225 u226 u227 u228:Value} (hn:n≤48)
  (HW:Hid ((∀ k,k≤n→sdW n lm M b ps k = false)∧(∀ j,j < n→wideZ lm (bkA n M b ps j) = false)))
  (HB:Hid (Kept w W0∧RowL 94 W0 pX [.slice none 0 0,.bool false,.slice none 0 0]∧w.heap.size≤pX))
  (H3:Hid (Kept W0 w3∧SX W0.heap.size pX w3 pd gx cx n (bkA n M b ps) (lastP M ps))) :
  (tailF Tryz.f39 40).wp Tryz.prog (bodyPost Tryz.prog Tryz.f39 (SldIs n lm M b ps w)) ⟨((.slice lo n lc) :: (.slice bo n bc) :: (.int .i64 (lm:Int)) :: u3 :: u4 :: u5 :: (.pointer (some ⟨pX,0,none⟩)) :: u7 :: (.int .i64 (n:Int)) :: u9 :: u10 :: u11 :: u12 :: u13 :: u14 :: u15 :: u16 :: u17 :: u18 :: (.pointer (some ⟨pd,0,none⟩)) :: (.slice (some ⟨gx,0,none⟩) n cx) :: u21 :: u22 :: u23 :: u24 :: u25 :: u26 :: u27 :: u28 :: u29 :: u30 :: u31 :: u32 :: u33 :: u34 :: u35 :: u36 :: u37 :: u38 :: u39 :: u40 :: u41 :: u42 :: u43 :: u44 :: u45 :: u46 :: u47 :: u48 :: u49 :: u50 :: u51 :: u52 :: u53 :: u54 :: u55 :: u56 :: u57 :: u58 :: u59 :: u60 :: u61 :: u62 :: u63 :: u64 :: u65 :: u66 :: u67 :: u68 :: u69 :: u70 :: u71 :: u72 :: u73 :: u74 :: u75 :: u76 :: u77 :: u78 :: u79 :: u80 :: u81 :: u82 :: u83 :: u84 :: u85 :: u86 :: u87 :: u88 :: u89 :: u90 :: u91 :: u92 :: u93 :: u94 :: u95 :: u96 :: u97 :: u98 :: u99 :: u100 :: u101 :: u102 :: u103 :: u104 :: u105 :: u106 :: u107 :: u108 :: u109 :: u110 :: u111 :: u112 :: u113 :: u114 :: u115 :: u116 :: u117 :: u118 :: u119 :: u120 :: u121 :: u122 :: u123 :: u124 :: u125 :: u126 :: u127 :: u128 :: u129 :: u130 :: u131 :: u132 :: u133 :: u134 :: u135 :: u136 :: u137 :: u138 :: u139 :: u140 :: u141 :: u142 :: u143 :: u144 :: u145 :: u146 :: u147 :: u148 :: u149 :: u150 :: u151 :: u152 :: u153 :: u154 :: u155 :: u156 :: u157 :: u158 :: u159 :: u160 :: u161 :: u162 :: u163 :: u164 :: u165 :: u166 :: u167 :: u168 :: u169 :: u170 :: u171 :: u172 :: u173 :: u174 :: u175 :: u176 :: u177 :: u178 :: u179 :: u180 :: u181 :: u182 :: u183 :: u184 :: u185 :: u186 :: u187 :: u188 :: u189 :: u190 :: u191 :: u192 :: u193 :: u194 :: u195 :: u196 :: u197 :: u198 :: u199 :: u200 :: u201 :: u202 :: u203 :: u204 :: u205 :: u206 :: u207 :: u208 :: u209 :: u210 :: u211 :: u212 :: u213 :: u214 :: u215 :: u216 :: u217 :: u218 :: u219 :: u220 :: u221 :: u222 :: u223 :: u224 :: u225 :: u226 :: u227 :: u228 :: []).toArray,[]⟩ w3:=by
 obtain ⟨Q,hQ⟩:∃ Q,Q = SldIs n lm M b ps w:=⟨_,rfl⟩
 rw [← hQ]
 have HQ:=hid hQ
 clear hQ
 conv =>
  arg 2
  whnf
 obtain ⟨s,o,k,c,r,hd⟩:=H3.out.2.d
 have d0:=r.cell 0 _ rfl
 have d1:=r.cell 1 _ rfl
 have hk:k≤200:=by
  obtain ⟨_,_,_,_,e,hk,_⟩:=hd
  cases e
  exact hk
 have hsg:=D.Sign_any s o k c (lastP M ps) w3 hd.1 (by omega)
 have HD:=hid (And.intro r hd)
 clear r hd
 --%A
 go_wp2_with fail
 refine hsg.mono ?_
 rintro e w4 ⟨rfl,hk4⟩
 have HK4:=hid (H3.out.1.trans hk4)
 have HS4:=hid (H3.out.2.kept hk4)
 have d0:=(HD.out.1.kept hk4).cell 0 _ rfl
 have d1:=(HD.out.1.kept hk4).cell 1 _ rfl
 have HD4:=hid (And.intro (HD.out.1.kept hk4) (HD.out.2.kept hk4))
 obtain ⟨sg,hsgd⟩:∃ x,x = isgn (lastP M ps) 0:=⟨_,rfl⟩
 rw [← hsgd]
 have HG:=hid hsgd
 clear hsg hk4 HD hsgd H3
 by_cases hneg:lastP M ps < 0
 ·
  have hs1:sg < 0:=by
   rw [HG.out]
   unfold isgn
   split
   ·
    decide
   ·
    omega
  have hmn:=D.Minus_same s o k c (lastP M ps) w4 HD4.out.2.1 (by omega)
  --%B
  go_wp2_with fail
  refine hmn.mono ?_
  rintro e w5 ⟨hk5,s',o',c',rfl,hni,hsame⟩
  have hS5:=HS4.out.kept hk5
  have r5:=HD4.out.1.kept hk5
  have d0:=r5.cell 0 _ rfl
  have d1:=r5.cell 1 _ rfl
  have f0:=r5.fz 0
  have f1:=r5.fz 1
  have HS6:=hid (And.intro (((HK4.out.trans hk5).setCell (p:=⟨pd,0,none⟩) HS4.out.pd (.bool s')).setCell (p:=⟨pd,1,none⟩) HS4.out.pd (.slice o' k c')) ((hS5.setd ((HD4.out.2.swap hni hsame))).congr (Y:=fun j => if j < 0 then -bkA n M b ps j else bkA n M b ps j) (fun j hj => by rw [if_neg (Nat.not_lt_zero _)])))
  clear hmn hS5 r5 hk5 hni hsame HS4 HD4 HK4
  --%C
  go_wp2_with fail
  go_loopw [25] (fun v25 wr => ∃ i:Nat,i≤n∧v25 = .int .i64 (i:Int)∧Hid (Kept W0 wr∧SX W0.heap.size pX wr pd gx cx n (fun j => if j < i then -bkA n M b ps j else bkA n M b ps j) (-lastP M ps))) (fun v25 _ => n - (intOf v25).toNat)
  case atStart => exact ⟨0,Nat.zero_le _,rfl,HS6.out⟩
  case round =>
   clear HS6 d0 d1 f0 f1
   obtain ⟨i,hi,rfl,H⟩:=hrel
   generalize wr = w6 at H ⊢
   by_cases hit:i < n
   ·
    have hii:(i:Int) < (n:Int):=by omega
    have hi0:(0:Int)≤(i:Int):=by omega
    obtain ⟨si,oi,ki,ci,x0,x1,hdi,hki⟩:=H.out.2.x.get hit
    rw [if_neg (Nat.lt_irrefl _)] at hdi
    have hmn:=D.Minus_same si oi ki ci (bkA n M b ps i) w6 hdi.1 (by omega)
    have HI:=hid hdi
    clear hdi
    --%D
    go_wp2_with fail
    refine hmn.mono ?_
    rintro e w7 ⟨hk7,s',o',c',rfl,hni,hsame⟩
    have hS7:=H.out.2.kept hk7
    obtain ⟨s9,o9,k9,c9,x0,x1,_,_⟩:=hS7.x.get hit
    have f0:=hS7.x.fz (i * 2)
    have f1:=hS7.x.fz (i * 2 + 1)
    have hgx:=hS7.lt.2
    have HS8:=hid (And.intro (((H.out.1.trans hk7).setCell (p:=⟨gx,i * 2,none⟩) hgx (.bool s')).setCell (p:=⟨gx,i * 2 + 1,none⟩) hgx (.slice o' ki c')) ((hS7.setx hit (HI.out.swap hni hsame)).congr (Y:=fun j => if j < i + 1 then -bkA n M b ps j else bkA n M b ps j) (fun j hj => by
     show upd _ i _ j = _
     unfold upd
     by_cases e:j = i
     ·
      subst e; rw [if_pos rfl,if_pos (by omega)]
     ·
      rw [if_neg e]
      show (if j < i then -bkA n M b ps j else bkA n M b ps j) = _
      by_cases e2:j < i
      ·
       rw [if_pos e2,if_pos (by omega)]
      ·
       rw [if_neg e2,if_neg (by omega)])))
    clear hmn hS7 hk7 hni hsame HI hgx
    --%E
    go_wp2_with fail
    go_roundw
    case rel => exact ⟨i + 1,by omega,by go_num,HS8.out⟩
    case measure => show n - ((i:Int) + 1).toNat < n - (i:Int).toNat; omega
   ·
    have hii:¬ (i:Int) < (n:Int):=by omega
    obtain rfl:i = n:=by omega
    obtain ⟨s5,o5,k5,c5,r5,hd5⟩:=H.out.2.d
    have d0:=r5.cell 0 _ rfl
    have d1:=r5.cell 1 _ rfl
    have rX:=HB.out.2.1.kept H.out.1
    have x0:=rX.cell 0 _ rfl
    have x1:=rX.cell 1 _ rfl
    have x2:=rX.cell 2 _ rfl
    have f0:=rX.fz 0
    have f1:=rX.fz 1
    have f2:=rX.fz 2
    have hsld:=sld_done (fun j hj => by rw [if_pos hj,if_pos hneg]) (by rw [if_pos hneg]) HW.out HB.out H.out.1 H.out.2 hd5
    have HZ:=hid hsld
    clear r5 hd5 rX hsld
    --%F
    go_wp2_with fail
    refine bodyPost_ret (v:=.tuple #[.agg #[.slice (some ⟨gx,0,none⟩) i cx,.bool s5,.slice o5 k5 c5],.int .i64 0]) (by simp [results,Tryz.results39,go_sem,x0,x1,x2]) rfl ?_
    rw [HQ.out]
    exact HZ.out
 ·
  have hs1:¬ sg < 0:=by
   rw [HG.out]
   unfold isgn
   split
   ·
    rename_i h; exact absurd h hneg
   ·
    split <;> decide
  have rX:=HB.out.2.1.kept HK4.out
  have x0:=rX.cell 0 _ rfl
  have x1:=rX.cell 1 _ rfl
  have x2:=rX.cell 2 _ rfl
  have f0:=rX.fz 0
  have f1:=rX.fz 1
  have f2:=rX.fz 2
  have hsld:=sld_done (X:=bkA n M b ps) (z:=lastP M ps) (fun j hj => by rw [if_neg hneg]) (by rw [if_neg hneg]) HW.out HB.out HK4.out HS4.out HD4.out.2
  have HZ:=hid hsld
  clear rX hsld HS4 HD4
  --%G
  go_wp2_with fail
  refine bodyPost_ret (v:=.tuple #[.agg #[.slice (some ⟨gx,0,none⟩) n cx,.bool s,.slice o k c],.int .i64 0]) (by simp [results,Tryz.results39,go_sem,x0,x1,x2]) rfl ?_
  rw [HQ.out]
  exact HZ.out
end Bp
end Go.Proofs.YtdcgdpbgnijnpaaGreat

namespace Go.Proofs.YtdcgdpbgnijnpaaGreat
open Go.RowKit
open V (RowL RowL.alloc RowL.lt RowL.cell RowL.fz RowL.kept RowL.block RowL.set RowL.far)
open Sp (hid own_kept own_keptK own_row own_shape info_parts)
open X (zk zr zl zd region_z anyZ_ready AllZ AllZ.cons AllZ.nil)
open Ba (stg lastP pivs leftR leftC wideZ wideM nz facGo facS Fits leftR_iff leftC_iff stg_snoc stg_exact stg_col last_ne pivs_take ext)
open Sy
namespace Bp
theorem SgR.add {A:Nat→Prop} {n:Nat} {M:Nat→Nat→Int} {ps:List (Nat × Nat)} {w:World} {v:Value} (h:SgR A n M ps w v):SgR (fun q => A q ∨ w.heap.size≤q) n M ps w v:=by
 obtain ⟨ao,cap,rfl,h⟩:=h
 refine ⟨ao,cap,rfl,fun h0 => ?_⟩
 obtain ⟨b,rfl,hb,hn,hc⟩:=h h0
 refine ⟨b,rfl,hb,fun h => h.elim hn (fun h => by omega),fun j hj => ?_⟩
 obtain ⟨h1,h2,so,sc,h3,h4⟩:=hc j hj
 exact ⟨h1,h2,so,sc,h3,h4.add⟩
theorem SgR.at {A:Nat→Prop} {n:Nat} {M:Nat→Nat→Int} {ps:List (Nat × Nat)} {w:World} {ao:Option Addr} {k cap:Nat} (h:SgR A n M ps w (.slice ao k cap)) {j:Nat} (hj:j < ps.length):∃ b so sc,ao = some ⟨b,0,none⟩∧(∀ V,KX A w V→V.cell? ⟨b,j * 3,none⟩ = some (.int .i64 (ps[j].1:Int))∧V.cell? ⟨b,j * 3 + 1,none⟩ = some (.int .i64 (ps[j].2:Int))∧V.cell? ⟨b,j * 3 + 2,none⟩ = some (.slice so n sc))∧MNA A 144 n (mF M (ps.take j)) w (.slice so n sc) n:=by
 obtain ⟨_,_,e,h⟩:=h
 cases e
 obtain ⟨b,rfl,hb,hA,hc⟩:=h (by omega)
 obtain ⟨h1,h2,so,sc,h3,h4⟩:=hc j hj
 refine ⟨b,so,sc,rfl,fun V k => ?_,h4⟩
 have hh:=k.block b hb hA
 exact ⟨(World.cell?_of_block (a:=⟨b,j * 3,none⟩) hh).trans h1,(World.cell?_of_block (a:=⟨b,j * 3 + 1,none⟩) hh).trans h2,(World.cell?_of_block (a:=⟨b,j * 3 + 2,none⟩) hh).trans h3⟩
theorem MNA.num {A:Nat→Prop} {K m n:Nat} {F:Nat→Nat→Int} {w:World} {ao:Option Addr} {cap:Nat} (h:MNA A K m F w (.slice ao n cap) n) {i j:Nat} (hi:i < n) (hj:j < m):∃ b off ra rc c off2 s o k cp,ao = some ⟨b,off,none⟩∧ra = some ⟨c,off2,none⟩∧(∀ V,KX A w V→V.cell? ⟨b,off + i,none⟩ = some (.slice ra m rc)∧V.cell? ⟨c,off2 + j * 2,none⟩ = some (.bool s)∧V.cell? ⟨c,off2 + j * 2 + 1,none⟩ = some (.slice o k cp))∧DX A K w s (.slice o k cp) (F i j)∧k≤K:=by
 obtain ⟨b,off,ra,rc,rfl,_,h1,h2⟩:=h.at hi
 obtain ⟨c,off2,s,o,k,cp,rfl,_,_,h3,h4,h5⟩:=h2.at hj
 exact ⟨b,off,_,rc,c,off2,s,o,k,cp,rfl,rfl,fun V k => ⟨h1 V k,(h3 V k).1,(h3 V k).2⟩,h4,h5⟩
def LastIs (A:Nat→Prop) (z:Int) (w:World) (e:Ending) (w':World):Prop:=Kept w w'∧∃ s o k c,e = .returned (.agg #[.bool s,.slice o k c])∧DX A 144 w' s (.slice o k c) z
set_option maxRecDepth 100000 in
set_option maxHeartbeats 8000000 in
theorem last14_any (A:Nat→Prop) (lo:Option Addr) (n lc:Nat) (M:Nat→Nat→Int) (ps:List (Nat × Nat)) (w:World) (h:SgR A n M ps w (.slice lo n lc)) (hA:∀ q,A q→q < w.heap.size) (hl:ps.length = n) (hf:Fits n M ps) (hn:n≤48) :
  Calls Tryz.prog 71 #[.slice lo n lc] w (LastIs A (lastP M ps) w):=by
 have HA:=hid hA
 clear hA
 by_cases h0:n = 0
 ·
  have hnil:ps = []:=List.eq_nil_of_length_eq_zero (by omega)
  subst hnil
  subst h0
  rw [show lastP M [] = 1 from rfl]
  have rR:=RowL.alloc 51 w [.bool false,.slice none 0 0]
  have kR:=(Kept.refl w).alloc (.cells #[.bool false,.slice none 0 0] 51)
  clear h hl hf
  go_enter Tryz.func71,Tryz.ntmps71
  go_upto_region 1 with fail
  generalize w.alloc (.cells #[.bool false,.slice none 0 0] 51) = w1 at rR kR ⊢
  obtain ⟨pR,hpR⟩:∃ p,p = w.heap.size:=⟨_,rfl⟩
  rw [← hpR] at rR ⊢
  have HP:=hid (show w.heap.size≤pR by rw [hpR]; exact Nat.le_refl _)
  have HPl:=hid (show pR < w1.heap.size from rR.lt)
  clear hpR
  have hsm:=D.Small_new 1 w1 (by decide)
  --%A
  go_wp2_with fail
  refine hsm.mono ?_
  rintro e w2 ⟨hk2,qo,qk,qc,ql,rfl,hq1,hq2,hq3,hq4,hq5⟩
  have hni:D.NIs w2 false (.slice qo qk qc) 1:=⟨ql,hq1,⟨hq1.bd,hq2,fun _ => rfl⟩,by unfold D.int; rw [hq3]; rfl⟩
  have hdx:=dx_new (A:=fun x => A x ∨ x = pR) (K:=144) hni (by have:=dsl_len hq1; omega) hq5 (fun x hx => by
   rcases hx with hx | hx
   ·
    exact Nat.lt_of_lt_of_le (HA.out x hx) kR.size
   ·
    have:=HPl.out; omega)
  have r2:=rR.kept hk2
  have x0:=r2.cell 0 _ rfl
  have x1:=r2.cell 1 _ rfl
  have f0:=r2.fz 0
  have f1:=r2.fz 1
  have kx:KX (fun q => q = pR) w2 ((w2.setCell ⟨pR,0,none⟩ (.bool false)).setCell ⟨pR,1,none⟩ (.slice qo qk qc)):=((KX.refl w2).setCell (T:=fun q => q = pR) (p:=⟨pR,0,none⟩) (.inl rfl) _).setCell (p:=⟨pR,1,none⟩) (.inl rfl) _
  have HZ:=hid (And.intro (KX.kept (kR.trans hk2) kx fun x hx => by rw [hx]; exact HP.out) ((hdx.kx (kx.mono fun x hx => .inr hx)).mono (A':=A) (fun x hx => .inl hx) (Nat.le_refl _)))
  clear hsm hk2 hq1 hq2 hq3 hq4 hq5 hni hdx kx r2 rR kR
  --%B
  go_wp2_with fail
  exact bodyPost_ret (v:=.agg #[.bool false,.slice qo qk qc]) (by simp [results,Tryz.results71,go_sem,x0,x1]) rfl ⟨HZ.out.1,_,_,_,_,rfl,HZ.out.2⟩
 ·
  obtain ⟨j,rfl⟩:∃ j,n = j + 1:=⟨n - 1,by omega⟩
  have hj:j < ps.length:=by omega
  obtain ⟨b,so,sc,rfl,hc,hm⟩:=h.at hj
  have hlt:=hf.lt _ (List.getElem_mem hj)
  obtain ⟨mb,mo,ra,rc,c,off2,s,o,k,cp,rfl,rfl,hcc,hd,hk⟩:=hm.num hlt.1 hlt.2
  have hps:ps = ps.take j ++ [(ps[j].1,ps[j].2)]:=by
   rw [← take_snoc hj,List.take_of_length_le (by omega)]
  have hlast:lastP M ps = mF M (ps.take j) ps[j].1 ps[j].2:=by
   conv => lhs; rw [hps]
   rw [(stg_snoc M (ps.take j) ps[j].1 ps[j].2).2,mF_left (row_at hf.rows hj)]
  rw [hlast]
  obtain ⟨r,hr⟩:∃ x,x = ps[j].1:=⟨_,rfl⟩
  obtain ⟨cl,hcl⟩:∃ x,x = ps[j].2:=⟨_,rfl⟩
  rw [← hr,← hcl] at hc hcc hlt hd ⊢
  have HD:=hid hd
  have HC:=hid (And.intro hc hcc)
  have hrj:r < j + 1:=hlt.1
  have hcj:cl < j + 1:=hlt.2
  clear h hm hlast hps hd hlt hc hcc hr hcl hl hf
  have rR:=RowL.alloc 51 w [.bool false,.slice none 0 0]
  have kR:=(Kept.refl w).alloc (.cells #[.bool false,.slice none 0 0] 51)
  go_enter Tryz.func71,Tryz.ntmps71
  go_upto_region 1 with fail
  generalize w.alloc (.cells #[.bool false,.slice none 0 0] 51) = w1 at rR kR ⊢
  obtain ⟨pR,hpR⟩:∃ p,p = w.heap.size:=⟨_,rfl⟩
  rw [← hpR] at rR ⊢
  have HP:=hid (show w.heap.size≤pR by rw [hpR]; exact Nat.le_refl _)
  clear hpR
  have y0:=(HC.out.1 w1 (KX.of kR)).1
  have y1:=(HC.out.1 w1 (KX.of kR)).2.1
  have y2:=(HC.out.1 w1 (KX.of kR)).2.2
  have hr0:(0:Int)≤(r:Int):=by omega
  have hr1:(r:Int) < (j:Int) + 1:=by omega
  have hc0:(0:Int)≤(cl:Int):=by omega
  have hc1:(cl:Int) < (j:Int) + 1:=by omega
  have rS:=RowL.alloc 47 w1 [.int .i64 (r:Int),.int .i64 (cl:Int),.slice (some ⟨mb,mo,none⟩) (j + 1) sc]
  have kS:=(Kept.refl w1).alloc (.cells #[.int .i64 (r:Int),.int .i64 (cl:Int),.slice (some ⟨mb,mo,none⟩) (j + 1) sc] 47)
  --%C
  go_upto_region 4 with fail
  obtain ⟨pS,hpS⟩:∃ p,p = w1.heap.size:=⟨_,rfl⟩
  rw [← hpS] at rS ⊢
  clear hpS
  generalize w1.alloc (.cells #[.int .i64 (r:Int),.int .i64 (cl:Int),.slice (some ⟨mb,mo,none⟩) (j + 1) sc] 47) = w2 at rS kS ⊢
  change RowL 47 w2 pS _ at rS
  have sS:=hid (fun (V:World) (K:Kept w2 V) => show (fun w':World => w'.cell? ⟨pS,0,none⟩ = some (.int .i64 (r:Int))∧w'.cell? ⟨pS,1,none⟩ = some (.int .i64 (cl:Int))∧w'.cell? ⟨pS,2,none⟩ = some (.slice (some ⟨mb,mo,none⟩) (j + 1) sc)∧w'.cell? ⟨mb,mo + r,none⟩ = some (.slice (some ⟨c,off2,none⟩) (j + 1) rc)∧w'.cell? ⟨c,off2 + cl * 2,none⟩ = some (.bool s)∧w'.cell? ⟨c,off2 + cl * 2 + 1,none⟩ = some (.slice o k cp)) V from
   ⟨(rS.kept K).cell 0 _ rfl,(rS.kept K).cell 1 _ rfl,(rS.kept K).cell 2 _ rfl,HC.out.2 V (KX.of (kR.trans (kS.trans K)))⟩)
  have KT:Kept w2 w2.drew:=(Kept.refl _).drew
  have hdx:=(HD.out.add.kept kR)
  have r2:=rR.kept (kS.trans KT)
  have hdx2:=hdx.kept (kS.trans KT)
  have kall:=kR.trans (kS.trans KT)
  refine region_z 10 (S:=fun w' => w'.cell? ⟨pS,0,none⟩ = some (.int .i64 (r:Int))∧w'.cell? ⟨pS,1,none⟩ = some (.int .i64 (cl:Int))∧w'.cell? ⟨pS,2,none⟩ = some (.slice (some ⟨mb,mo,none⟩) (j + 1) sc)∧w'.cell? ⟨mb,mo + r,none⟩ = some (.slice (some ⟨c,off2,none⟩) (j + 1) rc)∧w'.cell? ⟨c,off2 + cl * 2,none⟩ = some (.bool s)∧w'.cell? ⟨c,off2 + cl * 2 + 1,none⟩ = some (.slice o k cp)) (by kernel_rfl) (sS.out _ KT) (fun hHeld => ?_)
  generalize w2.drew = V0 at KT hHeld r2 hdx2 kall ⊢
  have x0:=r2.cell 0 _ rfl
  have x1:=r2.cell 1 _ rfl
  have f0:=r2.fz 0
  have f1:=r2.fz 1
  have kx:KX (fun q => q = pR) V0 ((V0.setCell ⟨pR,0,none⟩ (.bool s)).setCell ⟨pR,1,none⟩ (.slice o k cp)):=((KX.refl V0).setCell (T:=fun q => q = pR) (p:=⟨pR,0,none⟩) (.inl rfl) _).setCell (p:=⟨pR,1,none⟩) (.inl rfl) _
  have HZ:=hid (And.intro (KX.kept kall kx fun x hx => by rw [hx]; exact HP.out) ((hdx2.kx (kx.mono fun x hx => .inr (by rw [hx]; exact HP.out))).mono (A':=A) (fun x hx => .inl hx) (Nat.le_refl _)))
  clear r2 hdx hdx2 kall kx rR rS kR kS KT y0 y1 y2
  refine zk 0 hHeld ?_
  refine zk 1 hHeld ?_
  refine zk 2 hHeld ?_
  refine zk 3 hHeld ?_
  refine zk 4 hHeld ?_
  refine zk 5 hHeld ?_
  refine zk 6 hHeld ?_
  refine zk 7 hHeld ?_
  refine zk 8 hHeld ?_
  refine zk 9 hHeld ?_
  refine zl fun K9 hK => ?_
  go_simp
  refine hK.out _ _ ?_
  clear hK hHeld
  refine zd ?_
  --%D
  go_wp2_with fail
  exact bodyPost_ret (v:=.agg #[.bool s,.slice o k cp]) (by simp [results,Tryz.results71,go_sem,x0,x1]) rfl ⟨HZ.out.1,_,_,_,_,rfl,HZ.out.2⟩
end Bp
end Go.Proofs.YtdcgdpbgnijnpaaGreat

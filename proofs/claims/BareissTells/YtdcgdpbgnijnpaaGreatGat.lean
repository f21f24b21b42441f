/- slices.Sorted(maps.Keys(m)): the columns of a row, rising. bareiss's table.pattern. -/
import Derived.Test.YtdcgdpbgnijnpaaGreatGao
import Derived.Test.YtdcgdpbgnijnpaaGreatShelfB
import Derived.Test.YtdcgdpbgnijnpaaGreatGas
import Derived.Shelf.Abstract
import Derived.Lib.SlKeysI
import Derived.Test.YtdcgdpbgnijnpaaGreatGad
namespace Go.Proofs.YtdcgdpbgnijnpaaGreat
open Go.RowKit Go.MapKept Go.Shelf Go.Maps Go.Sort
open Go.WideElems (Fit rd rg rd_mk)
namespace Bp
open Sp (thinR OwnI)
def cols (n:Nat) (f:Nat→Int):List Int:=((List.range n).filter fun k => decide (f k ≠ 0)).map Int.ofNat
theorem mem_cols {n:Nat} {f:Nat→Int} {x:Int}:x ∈ cols n f ↔ ∃ k:Nat,x = (k:Int)∧k < n∧f k ≠ 0:=by
  unfold cols
  simp only [List.mem_map,List.mem_filter,List.mem_range,decide_eq_true_eq]
  constructor
  · rintro ⟨k,⟨h1,h2⟩,rfl⟩
    exact ⟨k,rfl,h1,h2⟩
  · rintro ⟨k,rfl,h1,h2⟩
    exact ⟨k,⟨h1,h2⟩,rfl⟩
theorem cols_lt (n:Nat) (f:Nat→Int):(cols n f).Pairwise (fun a b => a < b):=by
  unfold cols
  rw [List.pairwise_map]
  refine (List.Pairwise.filter _ List.pairwise_lt_range).imp fun {a b} h => ?_
  show (a:Int) < (b:Int)
  omega
theorem cols_len (n:Nat) (f:Nat→Int):(cols n f).length≤n:=by
  unfold cols
  rw [List.length_map]
  have:=List.length_filter_le (fun k => decide (f k ≠ 0)) (List.range n)
  rw [List.length_range] at this
  exact this
theorem cols_sort (n:Nat) (f:Nat→Int) {ss:List Int} (h:ss.Perm (cols n f)):ss.mergeSort (fun x y => decide (x≤y)) = cols n f:=by
  rw [show ss.mergeSort (fun x y => decide (x≤y)) = (cols n f).mergeSort leI from mergeSort_of_perm_i h]
  exact List.mergeSort_of_pairwise ((cols_lt n f).imp fun {a b} h => by simp only [leI,decide_eq_true_eq]; omega)
theorem NumM.owns {B b n:Nat} {w:World} {f:Nat→Int} (h:NumM B w b n f) (hn:n≤1000):∃ D0:DataW Unit,w.ownsMap Tryz.prog 3 (fun _ => some (.nil,[])) b n D0∧(cols n f).Perm (intKeys D0)∧Maps.size D0≤n:=by
  obtain ⟨h0,es,clock,h1,h2,h3⟩:=h
  have hrd:∀ x ∈ es.toList,∃ k:Nat,k < n∧x.key = .int .i64 (k:Int)∧f k ≠ 0∧rd (H:=Unit) Tryz.prog 3 (fun _ => some (.nil,[])) x = some (.int .i64 (k:Int),.nil):=by
    intro x hx
    obtain ⟨k,g1,g2,g3,_⟩:=h3.key x hx
    refine ⟨k,g1,g2,g3,?_⟩
    obtain ⟨key,val,born⟩:=x
    simp only at g2
    subst g2
    have hwf:(Lit.int .i64 (k:Int)).wf = true:=WalkArith.wf_i64 (by omega)
    exact rd_mk (H:=Unit) (P:=Tryz.prog) (k:=3) (R:=fun _ => some (.nil,[])) (val:=val) (born:=born) (yv:=(.nil,[])) (keyOf_int_mk und_k hwf) rfl
  obtain ⟨G,hG⟩:∃ G,G = rg (H:=Unit) Tryz.prog 3 (fun _ => some (.nil,[])):=⟨_,rfl⟩
  have hg:∀ x ∈ es.toList,∃ k:Nat,k < n∧x.key = .int .i64 (k:Int)∧f k ≠ 0∧(G x).1 = .int .i64 (k:Int):=by
    intro x hx
    obtain ⟨k,g1,g2,g3,g4⟩:=hrd x hx
    refine ⟨k,g1,g2,g3,?_⟩
    rw [hG]
    unfold rg
    rw [g4]
    rfl
  have hK:(cols n f).Perm ((es.toList.map G).map fun p => Go.intOf p.1):=by
    rw [List.map_map]
    refine (List.perm_ext_iff_of_nodup ((cols_lt n f).imp fun {a b} h => by omega) ?_).2 fun x => ?_
    · refine List.pairwise_map.2 (((stamped_iff es clock).1 h2).2.2.imp_of_mem fun {x y} hx hy hne e => hne ?_)
      obtain ⟨k,_,e1,_,r1⟩:=hg x hx
      obtain ⟨j,_,e2,_,r2⟩:=hg y hy
      have e:Go.intOf (G x).1 = Go.intOf (G y).1:=e
      rw [r1,r2] at e
      have:(k:Int) = (j:Int):=e
      rw [e1,e2,this]
    · rw [mem_cols,List.mem_map]
      constructor
      · rintro ⟨k,rfl,_,hk⟩
        obtain ⟨y,hy,e⟩:=h3.all k hk
        obtain ⟨j,_,e2,_,r⟩:=hg y hy
        refine ⟨y,hy,?_⟩
        rw [e] at e2
        show Go.intOf (G y).1 = _
        rw [r]
        have:(k:Int) = (j:Int):=by injection e2
        exact this.symm
      · rintro ⟨y,hy,rfl⟩
        obtain ⟨j,g1,e2,g3,r⟩:=hg y hy
        refine ⟨j,?_,g1,g3⟩
        show Go.intOf (G y).1 = _
        rw [r]
        rfl
  have hlen:es.size≤n:=by
    have:=hK.length_eq
    simp only [List.length_map,Array.length_toList] at this
    have:=cols_len n f
    omega
  have hp:=Go.WideShapes.sorted_perm (es.toList.map G)
  have e1:=hp.length_eq
  have e2:(es.toList.map G).length = es.size:=(List.length_map ..).trans Array.length_toList
  refine ⟨.map ((es.toList.map G).foldr DataW.insert []),⟨es,clock,h1,⟨by unfold maxLen; omega,h2,fun x hx => by obtain ⟨k,_,_,_,r⟩:=hrd x hx; exact ⟨_,r⟩⟩,hlen,by rw [hG]⟩,hK.trans (hp.map fun p => Go.intOf p.1).symm,?_⟩
  show ((es.toList.map G).foldr DataW.insert []).length≤n
  omega
theorem keys_any (mb:Option Nat) (W:World):Calls Tryz.prog 83 #[.map mb] W fun e w' => e = .returned (.func (.func 106) #[] #[.pointer (some ⟨W.heap.size,0,none⟩)])∧w' = W.alloc (.cells #[.map mb] 85) :=
  (callsIn_wide (n:=5)).1 (AnyZI.keys_in Tryz.keysA Fence.wide 5 trivial rfl mb W)
theorem sorts_in (m:Nat):AnyZI.SortsIn Tryz.prog Tryz.sortedA_ren Fence.wide m :=
  ⟨fun blk off cap ss W hH hblk hsz => callsIn_wide.2 (AnyM.slices_Sort_int Tryz.sortA blk off cap ss W hH hblk hsz),
   fun p cap W => callsIn_wide.2 (AnyM.slices_Sort_int_none Tryz.sortA p cap W)⟩
set_option maxHeartbeats 1000000 in
theorem sorted_any {B n:Nat} {w:World} {f:Nat→Int} (mo:Option Nat) (h:RowM B w (.map mo) n f) (hn:n≤1000):Calls Tryz.prog 82 #[.func (.func 106) #[] #[.pointer (some ⟨w.heap.size,0,none⟩)]] (w.alloc (.cells #[.map mo] 85)) fun e w' => ∃ v,e = .returned v∧OwnI (w.alloc (.cells #[.map mo] 85)).heap.size w' v (cols n f)∧Kept (w.alloc (.cells #[.map mo] 85)) w':=by
  rcases h with ⟨e,h⟩ | ⟨b,e,h⟩
  · cases e
    have h0:cols n f = []:=by
      refine List.eq_nil_iff_forall_not_mem.2 fun x hx => ?_
      obtain ⟨k,_,_,hk⟩:=mem_cols.1 hx
      exact hk (h k)
    have hseq:SeqGives Fence.wide 2 Tryz.prog 106 #[.pointer (some ⟨w.heap.size,0,none⟩)] encZ (fun ss:List Int => ss = []) 0 (w.alloc (.cells #[.map none] 85)) :=
      AnyZI.keys_gives_nil (ρ:=Tryz.keysA_ren) { Tryz.keysA with } Fence.wide _ trivial rfl w.heap.size _ (by simp) (by simp)
    have cS:=AnyZI.sorted_in Tryz.sortedA Fence.wide 5 trivial trivial trivial trivial rfl (by omega) (sorts_in _) (enters_of Tryz.func105 (by kernel_rfl) rfl) 106 #[.pointer (some ⟨w.heap.size,0,none⟩)] trivial (enters_of Tryz.func106 (by kernel_rfl) rfl) _ 0 (Nat.zero_le _) (by omega) _ hseq
    refine (callsIn_wide.1 cS).mono ?_
    rintro e w' ⟨v,ss,rfl,rfl,hrow,_,hb⟩
    refine ⟨v,rfl,?_,hb⟩
    rw [h0]
    rw [List.mergeSort_nil] at hrow
    exact hrow
  · cases e
    have hbl:=h.lt
    obtain ⟨D0,hown,hperm,hsz⟩:=h.owns hn
    have hseq:SeqGives Fence.wide 2 Tryz.prog 106 #[.pointer (some ⟨w.heap.size,0,none⟩)] encZ (fun ss => ss.Perm (intKeys D0)) (Maps.size D0) (w.alloc (.cells #[.map (some b)] 85)) :=
      AnyZI.keys_gives (ρ:=Tryz.keysA_ren) { Tryz.keysA with } Fence.wide _ trivial rfl (by omega) w.heap.size b n D0 _ (by simp) (by simp) (by
        obtain ⟨es,clock,hb,Ft,hs,hD⟩:=hown
        exact ⟨es,clock,(Below.heap_alloc _ _ b hbl).trans hb,Ft,hs,hD⟩)
    have cS:=AnyZI.sorted_in Tryz.sortedA Fence.wide 5 trivial trivial trivial trivial rfl (by omega) (sorts_in _) (enters_of Tryz.func105 (by kernel_rfl) rfl) 106 #[.pointer (some ⟨w.heap.size,0,none⟩)] trivial (enters_of Tryz.func106 (by kernel_rfl) rfl) _ _ (by unfold maxLen; omega) (by omega) _ hseq
    refine (callsIn_wide.1 cS).mono ?_
    rintro e w' ⟨v,ss,rfl,hS,hrow,_,hb⟩
    have hp:ss.Perm (cols n f):=hS.trans hperm.symm
    rw [cols_sort n f hp] at hrow
    refine ⟨v,rfl,?_,hb⟩
    unfold OwnI
    rw [← hp.length_eq]
    exact hrow
end Bp
end Go.Proofs.YtdcgdpbgnijnpaaGreat

namespace Go.Proofs.YtdcgdpbgnijnpaaGreat
open Go.RowKit
open V (RowL RowL.alloc RowL.lt RowL.cell RowL.fz RowL.kept RowL.block RowL.set RowL.far)
namespace Bp
open Sp (hid PatU PatR OwnI own_kept own_keptK own_apart own_mono own_shape info_ints und_intss thinP thinR cell_new)
def nzF (F:Nat→Nat→Int):Nat→Nat→Bool:=fun i k => decide (F i k ≠ 0)
theorem thinP_succ (n:Nat) (m:Nat→Nat→Bool) (i:Nat):thinP n m (i + 1) = thinP n m i ++ [thinR m i n]:=by
 unfold thinP
 rw [List.range_succ,List.map_append]
 rfl
theorem thinP_length (n:Nat) (m:Nat→Nat→Bool) (i:Nat):(thinP n m i).length = i:=by
 unfold thinP
 rw [List.length_map,List.length_range]
set_option maxRecDepth 100000 in
set_option maxHeartbeats 8000000 in
theorem pattern_any (B n bt:Nat) (ms:Nat→Option Nat) (F:Nat→Nat→Int) (ao:Option Addr) (cap:Nat) (w:World) (h:TabR B w ao bt n ms F) (hn:n≤1000) :
  Calls Tryz.prog 49 #[.slice ao n cap] w fun e w' => Kept w w'∧∃ v,e = .returned v∧PatR w' v (thinP n (nzF F) n):=by
 obtain ⟨i0,hi,hz0,hz1,hz2⟩:=info_parts info_ints
 have HT:=hid h
 clear h
 go_enter Tryz.func49,Tryz.ntmps49
 go_wp2
 go_loopw [3,8] (fun v3 v8 wr => ∃ (i:Nat) (bv:Value),i≤n∧v3 = bv∧v8 = .int .i64 (i:Int)∧Hid (Kept w wr∧PatU w.heap.size wr bv (thinP n (nzF F) i))) (fun _ v8 _ => n - (intOf v8).toNat)
 case atStart => exact ⟨0,_,Nat.zero_le _,rfl,rfl,Kept.refl _,PatU.nil _ _⟩
 case round =>
  obtain ⟨i,bv,hil,rfl,rfl,H⟩:=hrel
  generalize wr = w1 at H ⊢
  by_cases hit:i < n
  ·
   have hii:(i:Int) < (n:Int):=by omega
   have hi0:(0:Int)≤(i:Int):=by omega
   have hT:=HT.out.kept H.out.1
   obtain ⟨rfl,c0,_,_,_⟩:=hT.cell hit
   have hrow:=hT.row i hit
   obtain ⟨mo,hmo⟩:∃ mo,mo = ms i:=⟨_,rfl⟩
   rw [← hmo] at c0 hrow
   have hk:=keys_any mo w1
   have hs:=sorted_any mo hrow (by omega)
   have HPL:=hid (thinP_length n (nzF F) i)
   clear hmo hT hrow
   --%A
   go_wp2_with fail
   refine hk.mono ?_
   rintro e w' ⟨rfl,rfl⟩
   have kA:=(Kept.refl w1).alloc (.cells #[.map mo] 85)
   have HA:=hid kA
   clear kA hk
   go_wp2_with fail
   refine hs.mono ?_
   rintro e w3 ⟨v,rfl,hO,hk⟩
   obtain ⟨g,rl,e1⟩:=own_shape hO
   have K3:=HA.out.trans hk
   have hsz3:w1.heap.size + 1 = (w1.alloc (.cells #[.map mo] 85)).heap.size:=by simp
   obtain ⟨hs',hgl,hown,hrows⟩:=H.out.2.kept K3
   have HW:=hid (And.intro hgl (And.intro hown hrows))
   have HR:=hid (And.intro K3 (own_mono (B':=w.heap.size) hO (by have:=H.out.1.size; omega)))
   have hws:w.heap.size≤w3.heap.size:=(H.out.1.trans K3).size
   clear hO hk hs hgl hown hrows K3 hsz3 c0
   obtain ⟨cl,hcl⟩:∃ l,l = cols n (F i):=⟨_,rfl⟩
   rw [← hcl] at HR e1
   obtain ⟨Q,hQ⟩:∃ Q,Q = thinP n (nzF F) i:=⟨_,rfl⟩
   have HQs:=hid (show thinP n (nzF F) (i + 1) = Q ++ [cl] by rw [thinP_succ,hQ,hcl]; rfl)
   rw [← hQ] at H HW HPL
   have hql:Q.length≤1000:=by have:=HPL.out; omega
   obtain ⟨ln,hln⟩:∃ k,k = cl.length:=⟨_,rfl⟩
   rw [← hln] at e1
   subst e1
   clear hcl hQ hln
   --%B
   go_wp2_with (at_builtin; refine wpList_append_lies _ rfl (.tmp 12) (.tmp 16) 108 rfl w.heap.size 41 i0 (.slice none 0 0) 1 24 und_intss hi hz0 hz1 hz2 rfl (by decide) u3 Q.length hs' rfl (by exact World.ownsRow.alloc HW.out.2.1 _) ⟨w3.heap.size,0,none⟩ 1 1 [.slice g ln rl] rfl rfl (cell_new w3 _ _) (fun u hu => by simp at hu; subst hu; rfl) (by omega) (by unfold maxLen; omega) (by omega) (by simp; omega) _ rfl ?_)
   intro G cap2 w5 hO hgr _ _
   have kA:=(Kept.refl w3).alloc (.cells #[.slice g ln rl] 41)
   have hOw:=World.ownsRow.alloc HW.out.2.1 (.cells #[.slice g ln rl] 41)
   generalize w3.alloc (.cells #[.slice g ln rl] 41) = W5 at kA hgr hOw
   have KW:Kept w w5:=Below.grown ((H.out.1.trans HR.out.1).trans kA) hgr ((H.out.1.trans HR.out.1).trans kA).size (fun k hk => (World.ownsRow.lt hOw k hk).1)
   have HB:=hid (fun (v:Value) (l:List Int) (hp:OwnI w.heap.size w3 v l) => (show OwnI w.heap.size w5 v l from own_kept (own_keptK hp kA) (fun b hb => hgr.block b (World.ownsRow.lt (own_keptK hp kA) b hb).2 (fun e => own_apart (own_keptK hp kA) hOw (by decide) b hb e.symm))))
   have HQ:=hid (And.intro KW (PatU.snoc (w:=w3) (w':=w5) HW.out.1 hO HW.out.2.2 HB.out HR.out.2))
   clear kA hOw hgr hO KW
   go_wp2_with fail
   go_roundw
   case rel => exact ⟨i + 1,_,by omega,rfl,by go_num,HQ.out.1,by rw [HQs.out]; exact HQ.out.2⟩
   case measure => show n - ((i:Int) + 1).toNat < n - (i:Int).toNat; omega
  ·
   have hii:¬ (i:Int) < (n:Int):=by omega
   have hin:i = n:=by omega
   subst hin
   go_wp2_with fail
   go_ret
   exact ⟨H.out.1,_,rfl,H.out.2.pat⟩
end Bp
end Go.Proofs.YtdcgdpbgnijnpaaGreat

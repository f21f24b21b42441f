/- Lemmas. -/
import Derived.Test.YtdjhmgmjiglcbaaGreatDoorGba
import Derived.Test.YtdjhmgmjiglcbaaGreatDoorGaw
import Derived.Test.YtdjhmgmjiglcbaaGreatDoorGav
import Derived.Test.YtdjhmgmjiglcbaaGreatDoorRows
import Derived.Test.YtdjhmgmjiglcbaaGreatDoorTie
import Derived.Test.YtdjhmgmjiglcbaaGreatDoorCards
import Derived.ProofKit
import Derived.LaidMore
import Derived.OpenShut
import Derived.Stop.Joined
import Derived.Lib.SmallJoins
import Derived.SevenTiedAt
import Derived.Stop.LaidErr
import Derived.Lib.LaidTab
import Derived.ShutString
import Derived.Lay
namespace Go.Proofs.YtdjhmgmjiglcbaaGreatDoor
open Go.RowKit
namespace Q
structure Lay (w:World):Prop where
 lett:Lett w
 err:ErrV w
 tab:Tab w
theorem Lay.kept {w w':World}(h:Lay w)(k:Kept w w'):Lay w':=⟨h.lett.kept k,h.err.kept k,h.tab.kept k⟩
end Q
end Go.Proofs.YtdjhmgmjiglcbaaGreatDoor
namespace Go.Proofs.YtdjhmgmjiglcbaaGreatDoor
open Go.ChangeShapes Go.WideShapes Go.ChangeAt Go.RowKit Go.Joins
namespace Q
theorem own:ownKnob Tryz.prog.godebug=none:=by kernel_rfl
theorem laidOut:laidOutB Tryz.prog=true:=by kernel_rfl
def pairsD (ps:List (List UInt8×Int)):DataW Unit:=.agg (ps.map fun p=>.agg [.lit (.string p.1),.lit (.int .i64 p.2)])
theorem cells_of_pairs {P:Program}{w:World}{base:Nat}{sp:Nat->Bool}{held:Bool}{enc:TypeId×Value->Unit}{fuel:Nat}{t e ts ti:TypeId}{n:Nat}{f0 f1:Field}{cs:List Value}{ps:List (List UInt8×Int)}{p:List MemPlace}
  (ht:P.underlying t=some (.array n e)) (he:P.underlying e=some (.struct #[f0,f1])) (h0:f0.type=ts) (h1:f1.type=ti) (o0:f0.offset=0) (o1:f1.offset=1) (hs:P.underlying ts=some .string) (hi:P.underlying ti=some (.int .i64))
  (hcs:P.cellsOf ts=1) (hci:P.cellsOf ti=1) (hce:P.cellsOf e=2) (hct:P.cellsOf t=2*n)
  (h:DataW.trod enc P w base sp held fuel t cs=some (pairsD ps,p)):∀(i:Nat) (q:List UInt8×Int),ps[i]?=some q->cs[2*i]?=some (.string ⟨q.1.toArray⟩)/\cs[2*i+1]?=some (.int .i64 q.2):=by
 cases fuel with
 |zero=>simp[DataW.trod]at h
 |succ fuel=>
  simp only[DataW.trod,ht,hce,hct]at h
  split at h
  ·obtain⟨xs,hm,hx⟩:=Option.map_eq_some_iff.1 h
   have hxs:xs.map (·.1)=ps.map fun p=>(DataW.agg [.lit (.string p.1),.lit (.int .i64 p.2)]:DataW Unit):=by
    have:=congrArg Prod.fst hx
    simpa[pairsD]using this
   have hxl:xs.length=n:=by simpa using Lib.mapM_length hm
   intro i q hq
   have hzl:ps.length=n:=by
    have:=congrArg List.length hxs
    simp at this
    omega
   have hin:i<n:=by
    rcases Nat.lt_or_ge i ps.length with h|h
    ·omega
    ·rw[List.getElem?_eq_none h]at hq;cases hq
   obtain⟨b,hb,hf⟩:=Lib.mapM_at hm i i (by simp[hin])
   have h2:(xs.map (·.1))[i]?=some b.1:=by simp[hb]
   rw[hxs,List.getElem?_map,hq]at h2
   simp only[Option.map_some,Option.some.injEq]at h2
   obtain⟨b1,b2⟩:=b
   simp only at h2
   subst h2
   cases fuel with
   |zero=>simp[DataW.trod]at hf
   |succ fuel=>
    simp only[DataW.trod,he,hce]at hf
    split at hf
    ·simp only[List.mapM_cons,List.mapM_nil,h0,h1,o0,o1,hcs,hci,Option.map_eq_some_iff,Option.bind_eq_bind,Option.bind_eq_some_iff,Option.pure_def,Option.some.injEq]at hf
     obtain⟨ys,⟨y0,hy0,zs,⟨y1,hy1,us,rfl,rfl⟩,rfl⟩,hys⟩:=hf
     obtain⟨s,e0,rfl,_⟩:=DataW.trod_string hs hy0
     obtain⟨z,e1,rfl,_⟩:=DataW.trod_int hi hy1
     simp only[List.map_cons,List.map_nil,Prod.mk.injEq,DataW.agg.injEq,List.cons.injEq,DataW.lit.injEq,Lit.string.injEq,Lit.int.injEq,and_true,true_and]at hys
     obtain⟨⟨e2,e3⟩,_⟩:=hys
     constructor
     ·have:=congrArg (·[0]?) e0
      simp only[List.drop_zero,List.getElem?_take,List.getElem?_drop]at this
      rw[<-e2]
      simpa[Nat.mul_comm]using this
     ·have:=congrArg (·[0]?) e1
      simp only[List.getElem?_take,List.getElem?_drop]at this
      rw[<-e3]
      simpa[Nat.mul_comm]using this
    ·cases hf
  ·cases h
theorem gPow : Tryz.prog.globalNamed "internal/strconv.uint64pow10" = some 4 := by kernel_rfl
theorem gPowType:(Tryz.prog.globals[4]?).map (·.type)=some 269:=by kernel_rfl
theorem gLet : Tryz.prog.globalNamed "shunt/num.letters" = some 0 := by kernel_rfl
theorem gLetType:(Tryz.prog.globals[0]?).map (·.type)=some 215:=by kernel_rfl
theorem gErr : Tryz.prog.globalNamed "strconv.ErrRange" = some 8 := by kernel_rfl
theorem gErrType:(Tryz.prog.globals[8]?).map (·.type)=some 222:=by kernel_rfl
def laidL : List (String × DataW Unit) := [("math/bits.deBruijn32tab", Rows.laid_math_bits_deBruijn32tab), ("math/bits.deBruijn64tab", Rows.laid_math_bits_deBruijn64tab), ("internal/strconv.uint64pow10", Rows.laid_internal_strconv_uint64pow10), ("unicode/utf8.acceptRanges", Rows.laid_unicode_utf8_acceptRanges), ("strconv.ErrRange", Rows.laid_strconv_ErrRange), ("strconv.ErrSyntax", Rows.laid_strconv_ErrSyntax), ("shunt/num.letters", Rows.laid_shunt_num_letters), ("unicode/utf8.first", Rows.laid_unicode_utf8_first)]
theorem lay_of {W:World}(h:laidMetH Tryz.prog laidL W):Lay W:=by
 rw[MakeChecks.laidMetH_plain _ _ _ (by kernel_rfl)]at h
 have h2 : laidMet Tryz.prog (("internal/strconv.uint64pow10", Lib.tabData .u64 Lib.pow10Tab) :: [("unicode/utf8.acceptRanges", Rows.laid_unicode_utf8_acceptRanges), ("strconv.ErrRange", Rows.laid_strconv_ErrRange), ("strconv.ErrSyntax", Rows.laid_strconv_ErrSyntax), ("shunt/num.letters", Rows.laid_shunt_num_letters), ("unicode/utf8.first", Rows.laid_unicode_utf8_first)]) W := laidMet.tail (laidMet.tail h)
 have h4 : laidMet Tryz.prog [("strconv.ErrRange", Rows.laid_strconv_ErrRange), ("strconv.ErrSyntax", Rows.laid_strconv_ErrSyntax), ("shunt/num.letters", Rows.laid_shunt_num_letters), ("unicode/utf8.first", Rows.laid_unicode_utf8_first)] W := laidMet.tail (laidMet.tail h2)
 have h6 : laidMet Tryz.prog (("shunt/num.letters", pairsD names) :: [("unicode/utf8.first", Rows.laid_unicode_utf8_first)]) W := laidMet.tail (laidMet.tail h4)
 refine⟨?_,?_,Lib.tabIs_of_head gPow gPowType Tryz.underlying269 Tryz.underlying113 (by kernel_rfl) (by kernel_rfl) h2⟩
 ·obtain⟨ps,⟨g',t',cs,fuel,p,q,hg',ht',hvar,hd,_,_⟩,_⟩:=h6
  obtain rfl:=Option.some.inj (gLet.symm.trans hg')
  obtain rfl:=Option.some.inj (gLetType.symm.trans ht')
  have hc:=cells_of_pairs Tryz.underlying215 Tryz.underlying195 rfl rfl rfl rfl Tryz.underlying9 Tryz.underlying3 (by kernel_rfl) (by kernel_rfl) (by kernel_rfl) (by kernel_rfl) hd
  intro j v hj
  rw[Nat.zero_add]
  show W.cell? ⟨0,j,none⟩=some v
  rw[World.var?_cell gLet hvar j,<-Array.getElem?_toList]
  have hj20:j<20:=by
   rcases Nat.lt_or_ge j 20 with h|h
   ·exact h
   ·rw[List.getElem?_eq_none (by simpa[lcs]using h)]at hj;cases hj
  match j,hj20,hj with
  |0,_,hj=>cases hj;exact(hc 0 _ rfl).1
  |1,_,hj=>cases hj;exact(hc 0 _ rfl).2
  |2,_,hj=>cases hj;exact(hc 1 _ rfl).1
  |3,_,hj=>cases hj;exact(hc 1 _ rfl).2
  |4,_,hj=>cases hj;exact(hc 2 _ rfl).1
  |5,_,hj=>cases hj;exact(hc 2 _ rfl).2
  |6,_,hj=>cases hj;exact(hc 3 _ rfl).1
  |7,_,hj=>cases hj;exact(hc 3 _ rfl).2
  |8,_,hj=>cases hj;exact(hc 4 _ rfl).1
  |9,_,hj=>cases hj;exact(hc 4 _ rfl).2
  |10,_,hj=>cases hj;exact(hc 5 _ rfl).1
  |11,_,hj=>cases hj;exact(hc 5 _ rfl).2
  |12,_,hj=>cases hj;exact(hc 6 _ rfl).1
  |13,_,hj=>cases hj;exact(hc 6 _ rfl).2
  |14,_,hj=>cases hj;exact(hc 7 _ rfl).1
  |15,_,hj=>cases hj;exact(hc 7 _ rfl).2
  |16,_,hj=>cases hj;exact(hc 8 _ rfl).1
  |17,_,hj=>cases hj;exact(hc 8 _ rfl).2
  |18,_,hj=>cases hj;exact(hc 9 _ rfl).1
  |19,_,hj=>cases hj;exact(hc 9 _ rfl).2
 ·obtain⟨ps,⟨g',t',cs,fuel,p,q,hg',ht',hvar,hd,_,_⟩,_⟩:=h4
  obtain rfl:=Option.some.inj (gErr.symm.trans hg')
  obtain rfl:=Option.some.inj (gErrType.symm.trans ht')
  obtain⟨_,u,v,hcs,_,_⟩:=iface_of_trod Tryz.underlying222 hd
  refine⟨u,v,?_⟩
  rw[World.var?_cell gErr hvar 0,<-Array.getElem?_toList,hcs];rfl
theorem met_laid (os:Os)(args:Array Value):laidMetH Tryz.prog laidL ((World.laidAll Tryz.prog os laidL).forCall (fun _ _=>0) ⟨#[],args,[]⟩).memory:=by
 rw[MakeChecks.laidMetH_plain _ _ _ (by kernel_rfl)]
 exact laidMet_laidAll _ (by kernel_rfl) (by kernel_rfl)
end Q
end Go.Proofs.YtdjhmgmjiglcbaaGreatDoor

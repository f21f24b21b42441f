/- QuoRem of package shuntref01. -/
import Derived.Test.YtdcgdpbgnijnpaaGreatRset2
import Derived.Test.YtdcgdpbgnijnpaaGreatGal
import Derived.Test.YtdcgdpbgnijnpaaGreatGam
import Derived.Test.YtdcgdpbgnijnpaaGreatGak
import Derived.Deep.RegionWith
namespace Go.Proofs.YtdcgdpbgnijnpaaGreat
open Go.RowKit
namespace D
def QuoGiven (B:Nat) (w':World) (e:Ending) (x y:Int):Prop :=
 ∃ s aq kq cq q t ar kr cr r,e = .returned (.tuple #[.agg #[.bool s,.slice aq kq cq],.agg #[.bool t,.slice ar kr cr],.int .i64 0])∧Go.Proofs.YtdcgdpbgnijnpaaGreat.New B w' (.slice aq kq cq) q∧Go.Proofs.YtdcgdpbgnijnpaaGreat.New B w' (.slice ar kr cr) r∧M.Bd q∧M.Tr q∧M.Bd r∧M.Tr r∧M.int s q = Int.tdiv x y∧M.int t r = Int.tmod x y∧(q = []→s = false)∧(r = []→t = false)
theorem Give_int (m:Bool) (ao:Option Addr) (k cap:Nat) (z:Int) (w:World) (h:NIs w m (.slice ao k cap) z) (hk:k≤10000) :
  Calls Tryz.prog 12 #[.agg #[.bool m,.slice ao k cap]] w fun e w' => Kept w w'∧∃ ao' n' cap' l,e = .returned (.agg #[.bool m,.slice ao' n' cap'])∧Go.Proofs.YtdcgdpbgnijnpaaGreat.New w.heap.size w' (.slice ao' n' cap') l∧M.Tr l∧M.int m l = z∧(l = []→m = false):=by
 obtain ⟨d,hd1,hd2,rfl,rfl⟩:=h.len
 refine (Give_any m ao cap d w hd1 hd2.tr hk).mono ?_
 rintro e w' ⟨h1,ao',n',cap',l,rfl,hn,ht,hv,hl⟩
 refine ⟨h1,ao',n',cap',l,rfl,hn,ht,by unfold M.int int; rw [hv],fun e => hd2.zero ?_⟩
 rw [e] at hl
 simp at hl
 exact List.length_eq_zero_iff.1 (by omega)
end D
end Go.Proofs.YtdcgdpbgnijnpaaGreat

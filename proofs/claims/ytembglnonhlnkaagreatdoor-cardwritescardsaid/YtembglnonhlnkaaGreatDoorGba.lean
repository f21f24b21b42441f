/- num.Grid. Fractions told by any numerator and denominator: near of them; numbers in units of ten to the power -18. num.Value, num.Cmp. Calls of rat told by any numerator and denominator. shuntref03.power. shuntref03.Of. shuntref02.Of, shuntref03.Billion. shuntref03: Value, Grid, Cmp. law03's awake. What the listed variables hold; a number that came in as an argument. -/
import Derived.Test.YtembglnonhlnkaaGreatDoorGaz
import Derived.Test.YtembglnonhlnkaaGreatDoorGal
import Derived.Test.YtembglnonhlnkaaGreatDoorGas
import Derived.Test.YtembglnonhlnkaaGreatDoorRwhole
import Derived.Test.YtembglnonhlnkaaGreatDoorGaj
import Derived.Test.YtembglnonhlnkaaGreatDoorRset2
import Derived.Test.YtembglnonhlnkaaGreatDoorGao
import Derived.Test.YtembglnonhlnkaaGreatDoorGay
import Derived.Test.YtembglnonhlnkaaGreatDoorGai
import Derived.Test.YtembglnonhlnkaaGreatDoorGax
import Derived.Test.YtembglnonhlnkaaGreatDoorGaw
import Derived.Test.YtembglnonhlnkaaGreatDoorRows
import Derived.Test.YtembglnonhlnkaaGreatDoorTie
import Derived.Test.YtembglnonhlnkaaGreatDoorCards
import Derived.ProofKit
import Derived.LaidMore
import Derived.OpenShut
import Derived.Stop.Joined
import Derived.Lib.SmallJoins
import Derived.SevenTiedAt
import Derived.Stop.LaidErr
import Derived.Lib.LaidTab
import Derived.ShutString
import Derived.Lay
namespace Go.Proofs.YtembglnonhlnkaaGreatDoor
open Go.RowKit
namespace Q
theorem okN_bd {m x:Int} (h:okN m x = true):-999999999≤m∧m≤999999999∧-18≤x∧x≤9:=by
 rcases okN_iff.1 h with ⟨rfl,rfl⟩ | ⟨_,h1,h2,_,h4,h5⟩
 ·
  decide
 ·
  exact ⟨h1,h2,h4,h5⟩
def Scl (m x N:Int) (D:Nat):Prop:=0 < D∧Nat.Coprime N.natAbs D∧N * (10 ^ (-x).toNat:Nat) = m * (10 ^ x.toNat:Nat) * D
def GridIs (e:Ending) (m x:Int):Prop :=
 (okN m x = false∧e = .returned (.tuple #[.int .i64 0,.int .i64 30])) ∨ (okN m x = true∧∃ N D,Scl m (x + 9) N D∧e = .returned (.tuple #[.int .i64 (F.gridV (F.near N D)),.int .i64 (F.gridE (F.near N D))]))
end Q
end Go.Proofs.YtembglnonhlnkaaGreatDoor

namespace Go.Proofs.YtembglnonhlnkaaGreatDoor
open Go.RowKit
namespace V
open Q (okN okN_bd Scl)
def U (m x:Int):Int:=m * ((10 ^ (x + 18).toNat:Nat):Int)
theorem scl_u {m x N:Int} {D:Nat} (hx:-18≤x) (h:Scl m x N D):N * ((10 ^ 18:Nat):Int) = U m x * D:=by
 obtain ⟨_,_,e⟩:=h
 unfold U
 by_cases h0:0≤x
 ·
  have e1:(-x).toNat = 0:=by omega
  have e2:(x + 18).toNat = x.toNat + 18:=by omega
  rw [e1] at e
  rw [e2,Nat.pow_add,Int.natCast_mul,← Int.mul_assoc,Int.mul_right_comm (m * _),← e]
  simp
 ·
  have e1:x.toNat = 0:=by omega
  have e2:10 ^ 18 = 10 ^ (-x).toNat * 10 ^ (x + 18).toNat:=by rw [← Nat.pow_add]; congr 1; omega
  rw [e1] at e
  rw [e2,Int.natCast_mul,← Int.mul_assoc,e]
  simp only [Nat.pow_zero,Int.natCast_one,Int.mul_one]
  rw [Int.mul_right_comm]
end V
end Go.Proofs.YtembglnonhlnkaaGreatDoor

namespace Go.Proofs.YtembglnonhlnkaaGreatDoor
open Go.RowKit
namespace Q
def ValIs (B:Nat) (w':World) (e:Ending) (m x:Int):Prop :=
 (okN m x = false∧e = .returned (.tuple #[.agg #[.bool false,.slice none 0 0,.bool false,.slice none 0 0],.int .i64 30])) ∨ (okN m x = true∧∃ v N D,e = .returned (.tuple #[v,.int .i64 0])∧RQ B w' v N D∧Scl m x N D)
def CmpIs (e:Ending) (m x m' x':Int):Prop :=
 (¬ (okN m x = true∧okN m' x' = true)∧e = .returned (.tuple #[.int .i64 0,.int .i64 30])) ∨ ((okN m x = true∧okN m' x' = true)∧∃ (N:Int) (D:Nat) (N':Int) (D':Nat),Scl m x N D∧Scl m' x' N' D'∧e = .returned (.tuple #[.int .i64 (isgn (N * D') (N' * D)),.int .i64 0]))
set_option maxRecDepth 100000 in
set_option maxHeartbeats 8000000 in
theorem cmp_any (m x m' x':Int) (w:World):Calls Tryz.prog 114 #[.agg #[.int .i64 m,.int .i64 x],.agg #[.int .i64 m',.int .i64 x']] w fun e w' => Kept w w'∧CmpIs e m x m' x':=by
 go_enter Tryz.func114,Tryz.ntmps114
 go_upto_region 1 with fail
 have hK:=((Kept.refl w).alloc (.cells #[.int .i64 m,.int .i64 x] 26)).alloc (.cells #[.int .i64 m',.int .i64 x'] 26)
 have hR2:=(Row2.alloc 26 w (.int .i64 m) (.int .i64 x)).kept ((Kept.refl _).alloc (.cells #[.int .i64 m',.int .i64 x'] 26))
 have hR3:=Row2.alloc 26 (w.alloc (.cells #[.int .i64 m,.int .i64 x] 26)) (.int .i64 m') (.int .i64 x')
 rw [World.size_alloc] at hR3
 generalize (w.alloc (.cells #[.int .i64 m,.int .i64 x] 26)).alloc (.cells #[.int .i64 m',.int .i64 x'] 26) = W at hK hR2 hR3 ⊢
 obtain ⟨p3,hp3⟩:∃ p,p = w.heap.size + 1:=⟨_,rfl⟩
 rw [← hp3] at hR3 ⊢
 obtain ⟨p2,hp2⟩:∃ p,p = w.heap.size:=⟨_,rfl⟩
 rw [← hp2] at hR2 ⊢
 have HK:=hid' hK
 have HR2:=hid' hR2
 have HR3:=hid' hR3
 obtain ⟨q0,q1,q2,q3⟩:=hR2.all
 clear hp2 hp3 hK hR2 hR3
 go_wp2_with fail
 refine (Valid_any m x _).mono ?_
 rintro e w1 ⟨hk1,rfl⟩
 have HK1:=hid' hk1
 clear hk1 q0 q1 q2 q3
 by_cases ho:okN m x = true
 ·
  have hb:=okN_bd ho
  rw [ho]
  have HO:=hid' ho
  clear ho
  obtain ⟨q0,q1,q2,q3⟩:=(HR3.out.kept HK1.out).all
  go_wp2_with fail
  refine (Valid_any m' x' _).mono ?_
  rintro e w2 ⟨hk2,rfl⟩
  have HK2:=hid' (HK1.out.trans hk2)
  clear hk2 q0 q1 q2 q3
  by_cases ho':okN m' x' = true
  ·
   have hb':=okN_bd ho'
   rw [ho']
   have HO':=hid' ho'
   clear ho'
   go_upto_region 3 with fail
   obtain ⟨q0,q1,q2,q3⟩:=(HR2.out.kept HK2.out).all
   obtain ⟨r0,r1,r2,r3⟩:=(HR3.out.kept HK2.out).all
   go_region_held3 (fun w' => w'.cell? ⟨p2,0,none⟩ = some (.int .i64 m)∧w'.cell? ⟨p2,1,none⟩ = some (.int .i64 x)∧w'.cell? ⟨p3,0,none⟩ = some (.int .i64 m')∧w'.cell? ⟨p3,1,none⟩ = some (.int .i64 x')) (go_keep) (first
    | (go_at_call_of 131 (Value.int .i64 m); refine (scaled_any m x (by omega) (by omega) (by omega) (by omega) _).mono ?_; rintro e w3 ⟨hk3,v3,N3,D3,rfl,hq3,he3⟩; have HS3:Hid (Scl m x N3 D3):=⟨hq3.low.1,hq3.low.2,he3⟩; obtain ⟨s,ao,ap,k,c,k',c',l,l',rfl,n1,n2,r,rfl,rfl⟩:=hq3; have H3:=hid' (And.intro n1.sl (And.intro n2.sl r)); have K3:=HK2.out.trans ((Kept.refl w2).drew.trans hk3); have a0:=(HR2.out.kept K3).c0; have a1:=(HR2.out.kept K3).c1; have a2:=(HR3.out.kept K3).c0; have a3:=(HR3.out.kept K3).c1; clear n1 n2 r he3)
    | (go_at_call_of 131 (Value.int .i64 m'); refine (scaled_any m' x' (by omega) (by omega) (by omega) (by omega) _).mono ?_; rintro e w4 ⟨hk4,v4,N4,D4,rfl,hq4,he4⟩; have HS4:Hid (Scl m' x' N4 D4):=⟨hq4.low.1,hq4.low.2,he4⟩; obtain ⟨s4,ao4,ap4,k4,c4,k4',c4',l4,l4',rfl,n1,n2,r,rfl,rfl⟩:=hq4; have H4:=hid' (And.intro n1.sl (And.intro n2.sl (And.intro r hk4))); have K4:=K3.trans hk4; have b0:=(HR2.out.kept K4).c0; have b1:=(HR2.out.kept K4).c1; have b2:=(HR3.out.kept K4).c0; have b3:=(HR3.out.kept K4).c1; clear n1 n2 r he4)
    | (go_at_call 130; refine (F.Cmp_ok s false s4 false ao ap ao4 ap4 k c k' c' k4 c4 k4' c4' l l' l4 l4' _ (H3.out.1.kept H4.out.2.2.2) (H3.out.2.1.kept H4.out.2.2.2) H4.out.1 H4.out.2.1 H3.out.2.2 H4.out.2.2.1).mono ?_; rintro e w5 ⟨rfl,hk5⟩; have K5:=K4.trans hk5; have d0:=(HR2.out.kept K5).c0; have d1:=(HR2.out.kept K5).c1; have d2:=(HR3.out.kept K5).c0; have d3:=(HR3.out.kept K5).c1))
   have HK5:=hid' (HK.out.trans K5)
   clear K3 K4 K5 hk3 hk4 hk5 q0 q1 q2 q3 r0 r1 r2 r3 a0 a1 a2 a3 b0 b1 b2 b3 d0 d1 d2 d3
   generalize hgi:isgn (M.int s l * M.val l4') (M.int s4 l4 * M.val l') = gi
   have HGI:=hid' hgi
   clear hgi
   go_wp2
   go_ret2
   exact ⟨HK5.out,.inr ⟨⟨HO.out,HO'.out⟩,_,_,_,_,HS3.out,HS4.out,by rw [HGI.out]; rfl⟩⟩
  ·
   have ho':okN m' x' = false:=by simpa using ho'
   rw [ho']
   have HO':=hid' ho'
   clear ho'
   go_wp2
   go_ret2
   exact ⟨HK.out.trans HK2.out,.inl ⟨fun hh => absurd (HO'.out.symm.trans hh.2) (by decide),rfl⟩⟩
 ·
  have ho:okN m x = false:=by simpa using ho
  rw [ho]
  have HO:=hid' ho
  clear ho
  go_wp2
  go_ret2
  exact ⟨HK.out.trans HK1.out,.inl ⟨fun hh => absurd (HO.out.symm.trans hh.1) (by decide),rfl⟩⟩
end Q
end Go.Proofs.YtembglnonhlnkaaGreatDoor

namespace Go.Proofs.YtembglnonhlnkaaGreatDoor
open Go.RowKit
namespace V
open Q (okN okN_bd Scl RQ hid')
def RT (B:Nat) (w:World) (v:Value) (A:Int) (S:Nat):Prop:=∃ N D,RQ B w v N D∧N * (S:Int) = A * D
theorem RT.kept {B:Nat} {w w':World} {v:Value} {A:Int} {S:Nat} (h:RT B w v A S) (k:Kept w w'):RT B w' v A S:=by
 obtain ⟨N,D,h1,h2⟩:=h
 exact ⟨N,D,h1.kept k,h2⟩
theorem RT.mono {B B':Nat} {w:World} {v:Value} {A:Int} {S:Nat} (h:RT B w v A S) (k:B'≤B):RT B' w v A S:=by
 obtain ⟨N,D,h1,h2⟩:=h
 exact ⟨N,D,h1.mono k,h2⟩
theorem RT.shape {B:Nat} {w:World} {v:Value} {A:Int} {S:Nat} (h:RT B w v A S):∃ (s:Bool) (ao ap:Option Addr) (k c k' c':Nat),v = .agg #[.bool s,.slice ao k c,.bool false,.slice ap k' c']:=by
 obtain ⟨N,D,⟨s,ao,ap,k,c,k',c',l,l',rfl,_⟩,_⟩:=h
 exact ⟨_,_,_,_,_,_,_,rfl⟩
theorem hW:(10:Nat) ^ 200 < M.W72:=by unfold M.W72; decide
end V
end Go.Proofs.YtembglnonhlnkaaGreatDoor

namespace Go.Proofs.YtembglnonhlnkaaGreatDoor
open Go.RowKit
namespace Q
structure P2 (w wr:World) (p2 p3:Nat) (sg:Bool) (ao:Option Addr) (k cap:Nat) (z:Int):Prop where
 kp:Kept w wr
 r2:Row2 87 wr p2 (.bool false) (.slice none 0 0)
 r3:Row2 87 wr p3 (.bool sg) (.slice ao k cap)
 na:D.NIs wr sg (.slice ao k cap) z
 p2w:w.heap.size≤p2
 p3w:w.heap.size≤p3
 ne:¬ p2 = p3
theorem P2.kept {w wr wr':World} {p2 p3:Nat} {sg:Bool} {ao:Option Addr} {k cap:Nat} {z:Int} (h:P2 w wr p2 p3 sg ao k cap z) (q:Kept wr wr'):P2 w wr' p2 p3 sg ao k cap z :=
 ⟨h.kp.trans q,h.r2.kept q,h.r3.kept q,h.na.kept q,h.p2w,h.p3w,h.ne⟩
theorem P2.put {w wr:World} {p2 p3:Nat} {sg:Bool} {ao:Option Addr} {k cap:Nat} {z:Int} (h:P2 w wr p2 p3 sg ao k cap z) {sg':Bool} {ao':Option Addr} {k' cap':Nat} {z':Int} (hn:D.NIs wr sg' (.slice ao' k' cap') z') :
  P2 w ((wr.setCell ⟨p3,0,none⟩ (.bool sg')).setCell ⟨p3,1,none⟩ (.slice ao' k' cap')) p2 p3 sg' ao' k' cap' z' :=
 ⟨Kept.put2 h.kp h.p3w _ _,h.r2.far h.ne _ _,h.r3.set2 _ _,hn.box2 h.r3.c0 h.r3.c1 _ _,h.p2w,h.p3w,h.ne⟩
def NE (w:World) (e:Ending) (z:Int) (kk:Nat):Prop:=∃ s ao k cap,e = .returned (.agg #[.bool s,.slice ao k cap])∧D.NIs w s (.slice ao k cap) z∧k≤kk
def pw (n:Nat):Int:=((10 ^ n:Nat):Int)
end Q
end Go.Proofs.YtembglnonhlnkaaGreatDoor

namespace Go.Proofs.YtembglnonhlnkaaGreatDoor
open Go.RowKit
namespace Q
def FE (w:World) (e:Ending) (m x:Int):Prop:=∃ (v:Value) (N:Int) (D:Nat),e = .returned v∧F.FIs w v N (D:Int) 110 110∧Scl m x N D
end Q
end Go.Proofs.YtembglnonhlnkaaGreatDoor

namespace Go.Proofs.YtembglnonhlnkaaGreatDoor
open Go.RowKit
namespace Q
def FQ (w:World) (e:Ending) (X Y:Int) (k k':Nat):Prop:=∃ v,e = .returned v∧F.FIs w v X Y k k'
end Q
end Go.Proofs.YtembglnonhlnkaaGreatDoor

namespace Go.Proofs.YtembglnonhlnkaaGreatDoor
open Go.RowKit
namespace Q
def RVal (B:Nat) (w':World) (e:Ending) (m x:Int):Prop :=
 (okN m x = false∧e = .returned (.tuple #[.agg #[.bool false,.slice none 0 0,.bool false,.slice none 0 0],.int .i64 30])) ∨ (okN m x = true∧∃ (s:Bool) (ao:Option Addr) (k c:Nat) (l:List Nat) (t:Bool) (ap:Option Addr) (k' c':Nat) (l':List Nat) (N:Int) (D:Nat),e = .returned (.tuple #[.agg #[.bool s,.slice ao k c,.bool t,.slice ap k' c'],.int .i64 0])∧New B w' (.slice ao k c) l∧New B w' (.slice ap k' c') l'∧M.Right s l∧M.Right t l'∧M.int s l = N∧M.int t l' = D∧Scl m x N D)
end Q
end Go.Proofs.YtembglnonhlnkaaGreatDoor

namespace Go.Proofs.YtembglnonhlnkaaGreatDoor
open Go.RowKit
namespace Q
structure Lay (w:World):Prop where
 lett:Lett w
 err:ErrV w
 tab:Tab w
theorem Lay.kept {w w':World} (h:Lay w) (k:Kept w w'):Lay w':=⟨h.lett.kept k,h.err.kept k,h.tab.kept k⟩
end Q
end Go.Proofs.YtembglnonhlnkaaGreatDoor

namespace Go.Proofs.YtembglnonhlnkaaGreatDoor
open Go.ChangeShapes Go.WideShapes Go.ChangeAt Go.RowKit Go.Joins
namespace Q
theorem own:ownKnob Tryz.prog.godebug = none:=by kernel_rfl
theorem laidOut:laidOutB Tryz.prog = true:=by kernel_rfl
def pairsD (ps:List (List UInt8 × Int)):DataW Unit:=.agg (ps.map fun p => .agg [.lit (.string p.1),.lit (.int .i64 p.2)])
theorem cells_of_pairs {P:Program} {w:World} {base:Nat} {sp:Nat→Bool} {held:Bool} {enc:TypeId × Value→Unit} {fuel:Nat} {t e ts ti:TypeId} {n:Nat} {f0 f1:Field} {cs:List Value} {ps:List (List UInt8 × Int)} {p:List MemPlace}
  (ht:P.underlying t = some (.array n e)) (he:P.underlying e = some (.struct #[f0,f1])) (h0:f0.type = ts) (h1:f1.type = ti) (o0:f0.offset = 0) (o1:f1.offset = 1) (hs:P.underlying ts = some .string) (hi:P.underlying ti = some (.int .i64))
  (hcs:P.cellsOf ts = 1) (hci:P.cellsOf ti = 1) (hce:P.cellsOf e = 2) (hct:P.cellsOf t = 2 * n)
  (h:DataW.trod enc P w base sp held fuel t cs = some (pairsD ps,p)):∀ (i:Nat) (q:List UInt8 × Int),ps[i]? = some q→cs[2 * i]? = some (.string ⟨q.1.toArray⟩)∧cs[2 * i + 1]? = some (.int .i64 q.2):=by
 cases fuel with
 | zero => simp [DataW.trod] at h
 | succ fuel =>
  simp only [DataW.trod,ht,hce,hct] at h
  split at h
  ·
   obtain ⟨xs,hm,hx⟩:=Option.map_eq_some_iff.1 h
   have hxs:xs.map (·.1) = ps.map fun p => (DataW.agg [.lit (.string p.1),.lit (.int .i64 p.2)]:DataW Unit):=by
    have:=congrArg Prod.fst hx
    simpa [pairsD] using this
   have hxl:xs.length = n:=by simpa using Lib.mapM_length hm
   intro i q hq
   have hzl:ps.length = n:=by
    have:=congrArg List.length hxs
    simp at this
    omega
   have hin:i < n:=by
    rcases Nat.lt_or_ge i ps.length with h | h
    ·
     omega
    ·
     rw [List.getElem?_eq_none h] at hq; cases hq
   obtain ⟨b,hb,hf⟩:=Lib.mapM_at hm i i (by simp [hin])
   have h2:(xs.map (·.1))[i]? = some b.1:=by simp [hb]
   rw [hxs,List.getElem?_map,hq] at h2
   simp only [Option.map_some,Option.some.injEq] at h2
   obtain ⟨b1,b2⟩:=b
   simp only at h2
   subst h2
   cases fuel with
   | zero => simp [DataW.trod] at hf
   | succ fuel =>
    simp only [DataW.trod,he,hce] at hf
    split at hf
    ·
     simp only [List.mapM_cons,List.mapM_nil,h0,h1,o0,o1,hcs,hci,Option.map_eq_some_iff,Option.bind_eq_bind,Option.bind_eq_some_iff,Option.pure_def,Option.some.injEq] at hf
     obtain ⟨ys,⟨y0,hy0,zs,⟨y1,hy1,us,rfl,rfl⟩,rfl⟩,hys⟩:=hf
     obtain ⟨s,e0,rfl,_⟩:=DataW.trod_string hs hy0
     obtain ⟨z,e1,rfl,_⟩:=DataW.trod_int hi hy1
     simp only [List.map_cons,List.map_nil,Prod.mk.injEq,DataW.agg.injEq,List.cons.injEq,DataW.lit.injEq,Lit.string.injEq,Lit.int.injEq,and_true,true_and] at hys
     obtain ⟨⟨e2,e3⟩,_⟩:=hys
     constructor
     ·
      have:=congrArg (·[0]?) e0
      simp only [List.drop_zero,List.getElem?_take,List.getElem?_drop] at this
      rw [← e2]
      simpa [Nat.mul_comm] using this
     ·
      have:=congrArg (·[0]?) e1
      simp only [List.getElem?_take,List.getElem?_drop] at this
      rw [← e3]
      simpa [Nat.mul_comm] using this
    ·
     cases hf
  ·
   cases h
theorem gPow : Tryz.prog.globalNamed "internal/strconv.uint64pow10" = some 2 := by kernel_rfl
theorem gPowType:(Tryz.prog.globals[2]?).map (·.type) = some 219:=by kernel_rfl
theorem gLet : Tryz.prog.globalNamed "shunt/num.letters" = some 0 := by kernel_rfl
theorem gLetType:(Tryz.prog.globals[0]?).map (·.type) = some 170:=by kernel_rfl
theorem gErr : Tryz.prog.globalNamed "strconv.ErrRange" = some 4 := by kernel_rfl
theorem gErrType:(Tryz.prog.globals[4]?).map (·.type) = some 157:=by kernel_rfl
def laidL : List (String × DataW Unit) := [("math/bits.deBruijn32tab", Rows.laid_math_bits_deBruijn32tab), ("math/bits.deBruijn64tab", Rows.laid_math_bits_deBruijn64tab), ("internal/strconv.uint64pow10", Rows.laid_internal_strconv_uint64pow10), ("unicode/utf8.acceptRanges", Rows.laid_unicode_utf8_acceptRanges), ("strconv.ErrRange", Rows.laid_strconv_ErrRange), ("strconv.ErrSyntax", Rows.laid_strconv_ErrSyntax), ("shunt/num.letters", Rows.laid_shunt_num_letters), ("unicode/utf8.first", Rows.laid_unicode_utf8_first)]
theorem lay_of {W:World} (h:laidMetH Tryz.prog laidL W):Lay W:=by
 rw [MakeChecks.laidMetH_plain _ _ _ (by kernel_rfl)] at h
 have h2 : laidMet Tryz.prog (("internal/strconv.uint64pow10", Lib.tabData .u64 Lib.pow10Tab) :: [("unicode/utf8.acceptRanges", Rows.laid_unicode_utf8_acceptRanges), ("strconv.ErrRange", Rows.laid_strconv_ErrRange), ("strconv.ErrSyntax", Rows.laid_strconv_ErrSyntax), ("shunt/num.letters", Rows.laid_shunt_num_letters), ("unicode/utf8.first", Rows.laid_unicode_utf8_first)]) W := laidMet.tail (laidMet.tail h)
 have h4 : laidMet Tryz.prog [("strconv.ErrRange", Rows.laid_strconv_ErrRange), ("strconv.ErrSyntax", Rows.laid_strconv_ErrSyntax), ("shunt/num.letters", Rows.laid_shunt_num_letters), ("unicode/utf8.first", Rows.laid_unicode_utf8_first)] W := laidMet.tail (laidMet.tail h2)
 have h6 : laidMet Tryz.prog (("shunt/num.letters", pairsD names) :: [("unicode/utf8.first", Rows.laid_unicode_utf8_first)]) W := laidMet.tail (laidMet.tail h4)
 refine ⟨?_,?_,Lib.tabIs_of_head gPow gPowType Tryz.underlying219 Tryz.underlying132 (by kernel_rfl) (by kernel_rfl) h2⟩
 ·
  obtain ⟨ps,⟨g',t',cs,fuel,p,q,hg',ht',hvar,hd,_,_⟩,_⟩:=h6
  obtain rfl:=Option.some.inj (gLet.symm.trans hg')
  obtain rfl:=Option.some.inj (gLetType.symm.trans ht')
  have hc:=cells_of_pairs Tryz.underlying170 Tryz.underlying139 rfl rfl rfl rfl Tryz.underlying9 Tryz.underlying3 (by kernel_rfl) (by kernel_rfl) (by kernel_rfl) (by kernel_rfl) hd
  intro j v hj
  rw [Nat.zero_add]
  show W.cell? ⟨0,j,none⟩ = some v
  rw [World.var?_cell gLet hvar j,← Array.getElem?_toList]
  have hj20:j < 20:=by
   rcases Nat.lt_or_ge j 20 with h | h
   ·
    exact h
   ·
    rw [List.getElem?_eq_none (by simpa [lcs] using h)] at hj; cases hj
  match j,hj20,hj with
  | 0,_,hj => cases hj; exact (hc 0 _ rfl).1
  | 1,_,hj => cases hj; exact (hc 0 _ rfl).2
  | 2,_,hj => cases hj; exact (hc 1 _ rfl).1
  | 3,_,hj => cases hj; exact (hc 1 _ rfl).2
  | 4,_,hj => cases hj; exact (hc 2 _ rfl).1
  | 5,_,hj => cases hj; exact (hc 2 _ rfl).2
  | 6,_,hj => cases hj; exact (hc 3 _ rfl).1
  | 7,_,hj => cases hj; exact (hc 3 _ rfl).2
  | 8,_,hj => cases hj; exact (hc 4 _ rfl).1
  | 9,_,hj => cases hj; exact (hc 4 _ rfl).2
  | 10,_,hj => cases hj; exact (hc 5 _ rfl).1
  | 11,_,hj => cases hj; exact (hc 5 _ rfl).2
  | 12,_,hj => cases hj; exact (hc 6 _ rfl).1
  | 13,_,hj => cases hj; exact (hc 6 _ rfl).2
  | 14,_,hj => cases hj; exact (hc 7 _ rfl).1
  | 15,_,hj => cases hj; exact (hc 7 _ rfl).2
  | 16,_,hj => cases hj; exact (hc 8 _ rfl).1
  | 17,_,hj => cases hj; exact (hc 8 _ rfl).2
  | 18,_,hj => cases hj; exact (hc 9 _ rfl).1
  | 19,_,hj => cases hj; exact (hc 9 _ rfl).2
 ·
  obtain ⟨ps,⟨g',t',cs,fuel,p,q,hg',ht',hvar,hd,_,_⟩,_⟩:=h4
  obtain rfl:=Option.some.inj (gErr.symm.trans hg')
  obtain rfl:=Option.some.inj (gErrType.symm.trans ht')
  obtain ⟨_,u,v,hcs,_,_⟩:=iface_of_trod Tryz.underlying157 hd
  refine ⟨u,v,?_⟩
  rw [World.var?_cell gErr hvar 0,← Array.getElem?_toList,hcs]; rfl
theorem met_laid (os:Os) (args:Array Value):laidMetH Tryz.prog laidL ((World.laidAll Tryz.prog os laidL).forCall (fun _ _ => 0) ⟨#[],args,[]⟩).memory:=by
 rw [MakeChecks.laidMetH_plain _ _ _ (by kernel_rfl)]
 exact laidMet_laidAll _ (by kernel_rfl) (by kernel_rfl)
end Q
end Go.Proofs.YtembglnonhlnkaaGreatDoor

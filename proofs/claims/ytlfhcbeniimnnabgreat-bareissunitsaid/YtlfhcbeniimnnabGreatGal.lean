/- A matrix (rows of cells) and a list of whole numbers, in memory; is a matrix right? shuntlaw14.same, place, cell, over. shuntlaw14.over. shuntlaw14.row. shuntlaw14.heavy. -/
import Derived.Test.YtlfhcbeniimnnabGreatGai
import Derived.Test.YtlfhcbeniimnnabGreatGac
import Derived.Test.YtlfhcbeniimnnabGreatRtake
import Derived.Test.YtlfhcbeniimnnabGreatGaf
namespace Go.Proofs.YtlfhcbeniimnnabGreat
open Go.RowKit
namespace Bm
open Sp (hid)
open Sy
abbrev MxR:=LR 1 (fun l:LE => [l.v]) (fun w l => CsR w l.ao l.cs)
theorem mxr_kept {w w':World} {ao:Option Addr} {L:List LE} (h:MxR w ao L) (k:Kept w w'):MxR w' ao L:=LR.kept h k (fun _ ho => csr_kept ho k)
abbrev ZsR:=LR 2 ZE.cells ZE.ok
theorem zsr_kept {w w':World} {ao:Option Addr} {L:List ZE} (h:ZsR w ao L) (k:Kept w w'):ZsR w' ao L:=LR.kept h k (fun _ ho => ZE.ok.kept ho k)
theorem mxr_at {w:World} {ao:Option Addr} {L:List LE} (h:MxR w ao L) {i:Nat} (hi:i < L.length):∃ (b off:Nat) (ra:Option Addr) (rc:Nat) (cs:List CE),ao = some ⟨b,off,none⟩∧L[i] = ⟨ra,rc,cs⟩∧(∀ V,Kept w V→V.cell? ⟨b,off + i,none⟩ = some (.slice ra cs.length rc))∧CsR w ra cs:=by
 obtain ⟨b,off,rfl,hb,hc,hok⟩:=LR.at h hi
 generalize L[i] = l at hc hok ⊢
 obtain ⟨ra,rc,cs⟩:=l
 exact ⟨b,off,ra,rc,cs,rfl,rfl,fun V K => by have:=hc 0 _ rfl V K; rw [Nat.mul_one,Nat.add_zero] at this; exact this,hok⟩
theorem cel_at {w:World} {ao:Option Addr} {L:List CE} (h:CsR w ao L) {k:Nat} (hk:k < L.length):∃ (b off:Nat) (y:Int) (m:Bool) (zo:Option Addr) (zc:Nat) (zl:List Nat),ao = some ⟨b,off,none⟩∧L[k] = ⟨y,⟨m,zo,zc,zl⟩⟩∧(∀ V,Kept w V→V.cell? ⟨b,off + k * 3,none⟩ = some (.int .i64 y)∧V.cell? ⟨b,off + k * 3 + 1,none⟩ = some (.bool m)∧V.cell? ⟨b,off + k * 3 + 2,none⟩ = some (.slice zo zl.length zc))∧ZE.ok w ⟨m,zo,zc,zl⟩:=by
 obtain ⟨b,off,rfl,hb,hc,hok⟩:=LR.at h hk
 generalize L[k] = ce at hc hok ⊢
 obtain ⟨y,⟨m,zo,zc,zl⟩⟩:=ce
 exact ⟨b,off,y,m,zo,zc,zl,rfl,rfl,fun V K => ⟨hc 0 _ rfl V K,hc 1 _ rfl V K,hc 2 _ rfl V K⟩,hok⟩
theorem zsr_at {w:World} {ao:Option Addr} {L:List ZE} (h:ZsR w ao L) {k:Nat} (hk:k < L.length):∃ (b off:Nat) (m:Bool) (zo:Option Addr) (zc:Nat) (zl:List Nat),ao = some ⟨b,off,none⟩∧L[k] = ⟨m,zo,zc,zl⟩∧(∀ V,Kept w V→V.cell? ⟨b,off + k * 2,none⟩ = some (.bool m)∧V.cell? ⟨b,off + k * 2 + 1,none⟩ = some (.slice zo zl.length zc))∧ZE.ok w ⟨m,zo,zc,zl⟩:=by
 obtain ⟨b,off,rfl,hb,hc,hok⟩:=LR.at h hk
 generalize L[k] = ce at hc hok ⊢
 obtain ⟨m,zo,zc,zl⟩:=ce
 exact ⟨b,off,m,zo,zc,zl,rfl,rfl,fun V K => ⟨hc 0 _ rfl V K,hc 1 _ rfl V K⟩,hok⟩
def mOk (rows:List LE):Bool:=decide (rows.length≤48) && rows.all (fun r => cOk rows.length (-1) r.cs)
theorem rgt_any (z:ZE) (w:World) (hz:z.ok w) :
  Calls Tryz.prog 13 #[.agg #[.bool z.neg,z.v]] w fun e w' => Kept w w'∧e = .returned (.bool z.right):=by
 cases h:z.right with
 | true => exact (right_yes z.neg z.v z.lim w hz.1 (right_R.1 h)).mono fun e w' ⟨h1,h2⟩ => ⟨h2,h1⟩
 | false => exact (right_no z.neg z.v z.lim w hz.1 hz.2 (fun hr => by rw [right_R.2 hr] at h; cases h)).mono fun e w' ⟨h1,h2⟩ => ⟨h2,h1⟩
end Bm
end Go.Proofs.YtlfhcbeniimnnabGreat

namespace Go.Proofs.YtlfhcbeniimnnabGreat
open Go.RowKit
open V (RowL RowL.alloc RowL.lt RowL.cell RowL.fz RowL.kept RowL.block RowL.set RowL.far)
namespace Bm
open Sp (hid)
open Sy
def ZI (w:World) (s:Bool) (v:Value) (z:Int):Prop:=∃ l,Sl w v l∧M.Right s l∧M.int s l = z
theorem ZI.kept {w w':World} {s:Bool} {v:Value} {z:Int} (h:ZI w s v z) (k:Kept w w'):ZI w' s v z:=by
 obtain ⟨l,h1,h2⟩:=h
 exact ⟨l,h1.kept k,h2⟩
theorem ZI.of {w:World} {z:ZE} (h:z.ok w) (hr:z.right = true):ZI w z.neg z.v (M.int z.neg z.lim):=⟨z.lim,h.1,(right_R.1 hr).right h.1.1,rfl⟩
theorem ZI.len {w:World} {s:Bool} {ao:Option Addr} {k cap:Nat} {z:Int} (h:ZI w s (.slice ao k cap) z):k≤72:=by
 obtain ⟨l,h1,h2,_⟩:=h
 have:=h1.len
 have:=h2.len
 omega
theorem same_zi (m n:Bool) (va vb:Value) (x y:Int) (w:World) (ha:ZI w m va x) (hb:ZI w n vb y) :
  Calls Tryz.prog 30 #[.agg #[.bool m,va],.agg #[.bool n,vb]] w fun e w' => Kept w w'∧e = .returned (.bool (decide (x = y))):=by
 obtain ⟨a,h1,h2,rfl⟩:=ha
 obtain ⟨b,g1,g2,rfl⟩:=hb
 have l1:=h2.len
 have l2:=g2.len
 by_cases h:M.int m a = M.int n b
 ·
  obtain ⟨e1,e2⟩:=M.int_inj h2 g2 h
  rw [decide_eq_true h]
  exact (same_yes m n va vb a b w h1 g1 (by omega) e1 e2).mono fun e w' ⟨i,j⟩ => ⟨j,i⟩
 ·
  rw [decide_eq_false h]
  exact (same_no m n va vb a b w h1 g1 (by omega) (by omega) (fun ⟨e1,e2⟩ => h (by rw [e1,e2]))).mono fun e w' ⟨i,j⟩ => ⟨j,i⟩
set_option maxRecDepth 100000 in
set_option maxHeartbeats 4000000 in
theorem same14_any (m n:Bool) (ao bo:Option Addr) (k cap j cbp:Nat) (x y:Int) (w:World) (ha:ZI w m (.slice ao k cap) x) (hb:ZI w n (.slice bo j cbp) y) :
  Calls Tryz.prog 12 #[.agg #[.bool m,.slice ao k cap],.agg #[.bool n,.slice bo j cbp]] w fun e w' => Kept w w'∧e = .returned (.bool (decide (x = y))):=by
 obtain ⟨z,hz⟩:∃ z,z = decide (x = y):=⟨_,rfl⟩
 rw [← hz]
 have HZ:=hid (And.intro ha (And.intro hb hz))
 clear ha hb hz
 have kA:=((Kept.refl w).alloc (.cells #[.bool m,.slice ao k cap] 32)).alloc (.cells #[.bool n,.slice bo j cbp] 32)
 have HK:=hid kA
 clear kA
 go_enter Tryz.func12,Tryz.ntmps12
 go_wp2_with fail
 have h9:=same_zi m n _ _ x y _ (HZ.out.1.kept HK.out) (HZ.out.2.1.kept HK.out)
 rw [← HZ.out.2.2] at h9
 refine h9.mono ?_
 clear h9
 rintro e w1 ⟨hk,rfl⟩
 have HK:=hid (HK.out.trans hk)
 clear hk
 go_wp2_with fail
 go_ret
 exact ⟨HK.out,rfl⟩
set_option maxRecDepth 100000 in
set_option maxHeartbeats 4000000 in
theorem cell14_any (c x:Int) (w:World) (h1:-9223372036854775808≤x) (h2:x≤9223372036854775807) :
  Calls Tryz.prog 14 #[.int .i64 c,.int .i64 x] w fun e w' => Kept w w'∧∃ s ao k cap l,e = .returned (.agg #[.int .i64 c,.bool s,.slice ao k cap])∧New w.heap.size w' (.slice ao k cap) l∧M.Right s l∧M.int s l = x:=by
 have kA:=(Kept.refl w).alloc (.cells #[.int .i64 0,.bool false,.slice none 0 0] 45)
 have rA:=RowL.alloc 45 w [.int .i64 0,.bool false,.slice none 0 0]
 have sA:=alloc_sz w (.cells #[.int .i64 0,.bool false,.slice none 0 0] 45)
 go_enter Tryz.func14,Tryz.ntmps14
 go_upto_region 1 with fail
 generalize w.alloc (.cells #[.int .i64 0,.bool false,.slice none 0 0] 45) = W at kA rA sA ⊢
 obtain ⟨q,hq⟩:∃ q,q = w.heap.size:=⟨_,rfl⟩
 rw [← hq] at rA ⊢
 have HW:=hid (And.intro kA (And.intro rA (And.intro sA hq)))
 clear kA rA sA hq
 go_wp2_with fail
 refine (of_any x W h1 h2).mono ?_
 rintro e w1 ⟨hk,s,ao,k,cap,l,rfl,hn,hr,hi⟩
 have HR:=hid (And.intro hn (And.intro hr hi))
 have HW:=hid (And.intro (HW.out.1.trans hk) (And.intro (HW.out.2.1.kept hk) HW.out.2.2))
 clear hk hn hr hi
 have d0:=HW.out.2.1.cell 0 _
 have d1:=HW.out.2.1.cell 1 _
 have d2:=HW.out.2.1.cell 2 _
 have f0:=HW.out.2.1.fz 0
 have f1:=HW.out.2.1.fz 1
 have f2:=HW.out.2.1.fz 2
 --%A
 go_wp2_with fail
 --%B
 refine bodyPost_ret (v:=.agg #[.int .i64 c,.bool s,.slice ao k cap]) (by simp [results,Tryz.results14,go_sem,d0,d1,d2]) rfl ⟨?_,s,ao,k,cap,l,rfl,?_,HR.out.2⟩
 ·
  exact ((HW.out.1.setCell (by simp; have:=HW.out.2.2.2; omega) _).setCell (by simp; have:=HW.out.2.2.2; omega) _).setCell (by simp; have:=HW.out.2.2.2; omega) _
 ·
  refine New.mono (((HR.out.1.other ?_ _).other ?_ _).other ?_ _) ?_
  all_goals (have h1:=HW.out.2.2.1; have h2:=HW.out.2.2.2; simp; omega)
end Bm
end Go.Proofs.YtlfhcbeniimnnabGreat

namespace Go.Proofs.YtlfhcbeniimnnabGreat
open Go.RowKit
open V (RowL RowL.alloc RowL.lt RowL.cell RowL.fz RowL.kept RowL.block RowL.set RowL.far)
namespace Bm
open Sp (hid)
open Sy
def ZA (w:World) (s:Bool) (v:Value) (c z:Int):Prop:=(c = 0∧ZI w s v z) ∨ (c = 13∧s = false∧v = .slice none 0 0)
theorem ZA.kept {w w':World} {s:Bool} {v:Value} {c z:Int} (h:ZA w s v c z) (k:Kept w w'):ZA w' s v c z:=by
 rcases h with ⟨h1,h2⟩ | h
 ·
  exact .inl ⟨h1,h2.kept k⟩
 ·
  exact .inr h
theorem ZA.of {B:Nat} {w:World} {s:Bool} {v:Value} {c z:Int} (h:Fin B w s v c z):ZA w s v c z:=by
 rcases h with ⟨h1,l,h2,h3,h4⟩ | ⟨h1,h2,h3,_⟩
 ·
  exact .inl ⟨h1,l,h2.sl,h3,h4⟩
 ·
  exact .inr ⟨h1,h2,h3⟩
abbrev ZB (w:World) (p:Nat) (s:Bool) (v:Value):Prop:=RowL 32 w p [.bool s,v]
end Bm
end Go.Proofs.YtlfhcbeniimnnabGreat

namespace Go.Proofs.YtlfhcbeniimnnabGreat
open Go.RowKit
open V (RowL RowL.alloc RowL.lt RowL.cell RowL.fz RowL.kept RowL.block RowL.set RowL.far)
namespace Bm
open Sp (hid)
open Sy
def ZP (p q:Nat) (w:World) (s:Bool) (v:Value) (z:Int):Prop:=∃ l,Sl w v l∧M.Right s l∧M.int s l = z∧∀ b o n c,v = .slice (some ⟨b,o,none⟩) n c→b ≠ p∧b ≠ q
theorem ZP.zi {p q:Nat} {w:World} {s:Bool} {v:Value} {z:Int} (h:ZP p q w s v z):ZI w s v z:=by
 obtain ⟨l,h1,h2,h3,_⟩:=h
 exact ⟨l,h1,h2,h3⟩
theorem ZP.kept {p q:Nat} {w w':World} {s:Bool} {v:Value} {z:Int} (h:ZP p q w s v z) (k:Kept w w'):ZP p q w' s v z:=by
 obtain ⟨l,h1,h2,h3,h4⟩:=h
 exact ⟨l,h1.kept k,h2,h3,h4⟩
theorem new_at {B:Nat} {w:World} {v:Value} {l:List Nat} (h:New B w v l):∀ b o n c,v = .slice (some ⟨b,o,none⟩) n c→B≤b∧b < w.heap.size:=by
 intro b o n c e
 obtain ⟨_,⟨rfl,_⟩ | ⟨b',N,f,rfl,hB,hN,hr,hf⟩⟩:=h
 ·
  cases e
 ·
  simp only [Value.slice.injEq,Option.some.injEq,Addr.mk.injEq] at e
  obtain ⟨⟨rfl,_⟩,_⟩:=e
  exact ⟨hB,World.rowIs.lt hr⟩
theorem ZP.of {B p q:Nat} {w:World} {s:Bool} {v:Value} {l:List Nat} {z:Int} (h:New B w v l) (hr:M.Right s l) (hz:M.int s l = z) (hp:p < B) (hq:q < B ∨ w.heap.size≤q):ZP p q w s v z :=
 ⟨l,h.sl,hr,hz,fun b o n c e => by have:=new_at h b o n c e; omega⟩
def xz (xs:List ZE) (j:Nat):Int:=match xs[j]? with | some z => M.int z.neg z.lim | none => 0
def rowZ (xs:List ZE):List CE→Int
 | [] => 0
 | c :: t => rowZ xs t + M.int c.val.neg c.val.lim * xz xs c.col.toNat
theorem rowZ_snoc (xs:List ZE) (c:CE):∀ t,rowZ xs (t ++ [c]) = rowZ xs t + M.int c.val.neg c.val.lim * xz xs c.col.toNat
 | [] => by simp [rowZ]
 | d :: t => by
  show rowZ xs (t ++ [c]) + _ = (rowZ xs t + _) + _
  rw [rowZ_snoc xs c t]
  omega
theorem rowZ_take {xs:List ZE} {L:List CE} {k:Nat} (hk:k < L.length):rowZ xs (L.take (k + 1)) = rowZ xs (L.take k) + M.int L[k].val.neg L[k].val.lim * xz xs L[k].col.toNat:=by
 rw [List.take_add_one,List.getElem?_eq_getElem hk]
 exact rowZ_snoc xs _ _
def RowIs (w:World) (e:Ending) (z:Int):Prop:=∃ s ao k cap ok,e = .returned (.tuple #[.agg #[.bool s,.slice ao k cap],.bool ok])∧(ok = true→ZI w s (.slice ao k cap) z)
end Bm
end Go.Proofs.YtlfhcbeniimnnabGreat

namespace Go.Proofs.YtlfhcbeniimnnabGreat
open Go.RowKit
open V (RowL RowL.alloc RowL.lt RowL.cell RowL.fz RowL.kept RowL.block RowL.set RowL.far)
namespace Bm
open Sp (hid)
open Sy
def Light (rows:List LE) (bs:List ZE):Prop:=rows.length≤61∧(∀ r ∈ rows,r.cs.length≤60∧∀ c ∈ r.cs,c.val.lim.length≤600)∧bs.length≤61∧∀ z ∈ bs,z.lim.length≤600
def Seen (N:Nat) (cs:List CE):Prop:=∀ c ∈ cs,min 1000 c.val.lim.length≤N
def SeenR (N:Nat) (rows:List LE):Prop:=∀ r ∈ rows,r.cs.length≤60∧Seen N r.cs
def SeenB (N:Nat) (bs:List ZE):Prop:=∀ z ∈ bs,min 1000 z.lim.length≤N
def HeavyIs (rows:List LE) (bs:List ZE) (e:Ending):Prop:=∃ b,e = .returned (.bool b)∧(b = false→Light rows bs)
theorem HeavyIs.of {rows:List LE} {bs:List ZE} {e:Ending} (b:Bool) (h:e = .returned (.bool b)) (hf:b = false→Light rows bs):HeavyIs rows bs e:=⟨b,h,hf⟩
end Bm
end Go.Proofs.YtlfhcbeniimnnabGreat

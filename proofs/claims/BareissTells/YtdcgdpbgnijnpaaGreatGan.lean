/- A matrix (rows of cells) and a list of whole numbers, in memory; is a matrix right? shuntlaw14.same, place, cell, over. shuntlaw14.over. shuntlaw14.row. shuntlaw14.heavy. shuntref14.Fault. -/
import Derived.Test.YtdcgdpbgnijnpaaGreatGai
import Derived.Test.YtdcgdpbgnijnpaaGreatGac
import Derived.Test.YtdcgdpbgnijnpaaGreatGam
import Derived.Test.YtdcgdpbgnijnpaaGreatGaf
namespace Go.Proofs.YtdcgdpbgnijnpaaGreat
open Go.RowKit
namespace Bm
open Sp (hid)
open Sy
abbrev MxR:=LR 1 (fun l:LE => [l.v]) (fun w l => CsR w l.ao l.cs)
theorem mxr_kept {w w':World} {ao:Option Addr} {L:List LE} (h:MxR w ao L) (k:Kept w w'):MxR w' ao L:=LR.kept h k (fun _ ho => csr_kept ho k)
abbrev ZsR:=LR 2 ZE.cells ZE.ok
theorem zsr_kept {w w':World} {ao:Option Addr} {L:List ZE} (h:ZsR w ao L) (k:Kept w w'):ZsR w' ao L:=LR.kept h k (fun _ ho => ZE.ok.kept ho k)
theorem mxr_at {w:World} {ao:Option Addr} {L:List LE} (h:MxR w ao L) {i:Nat} (hi:i < L.length):∃ (b off:Nat) (ra:Option Addr) (rc:Nat) (cs:List CE),ao = some ⟨b,off,none⟩∧L[i] = ⟨ra,rc,cs⟩∧(∀ V,Kept w V→V.cell? ⟨b,off + i,none⟩ = some (.slice ra cs.length rc))∧CsR w ra cs:=by
 obtain ⟨b,off,rfl,hb,hc,hok⟩:=LR.at h hi
 generalize L[i] = l at hc hok ⊢
 obtain ⟨ra,rc,cs⟩:=l
 exact ⟨b,off,ra,rc,cs,rfl,rfl,fun V K => by have:=hc 0 _ rfl V K; rw [Nat.mul_one,Nat.add_zero] at this; exact this,hok⟩
theorem cel_at {w:World} {ao:Option Addr} {L:List CE} (h:CsR w ao L) {k:Nat} (hk:k < L.length):∃ (b off:Nat) (y:Int) (m:Bool) (zo:Option Addr) (zc:Nat) (zl:List Nat),ao = some ⟨b,off,none⟩∧L[k] = ⟨y,⟨m,zo,zc,zl⟩⟩∧(∀ V,Kept w V→V.cell? ⟨b,off + k * 3,none⟩ = some (.int .i64 y)∧V.cell? ⟨b,off + k * 3 + 1,none⟩ = some (.bool m)∧V.cell? ⟨b,off + k * 3 + 2,none⟩ = some (.slice zo zl.length zc))∧ZE.ok w ⟨m,zo,zc,zl⟩:=by
 obtain ⟨b,off,rfl,hb,hc,hok⟩:=LR.at h hk
 generalize L[k] = ce at hc hok ⊢
 obtain ⟨y,⟨m,zo,zc,zl⟩⟩:=ce
 exact ⟨b,off,y,m,zo,zc,zl,rfl,rfl,fun V K => ⟨hc 0 _ rfl V K,hc 1 _ rfl V K,hc 2 _ rfl V K⟩,hok⟩
theorem zsr_at {w:World} {ao:Option Addr} {L:List ZE} (h:ZsR w ao L) {k:Nat} (hk:k < L.length):∃ (b off:Nat) (m:Bool) (zo:Option Addr) (zc:Nat) (zl:List Nat),ao = some ⟨b,off,none⟩∧L[k] = ⟨m,zo,zc,zl⟩∧(∀ V,Kept w V→V.cell? ⟨b,off + k * 2,none⟩ = some (.bool m)∧V.cell? ⟨b,off + k * 2 + 1,none⟩ = some (.slice zo zl.length zc))∧ZE.ok w ⟨m,zo,zc,zl⟩:=by
 obtain ⟨b,off,rfl,hb,hc,hok⟩:=LR.at h hk
 generalize L[k] = ce at hc hok ⊢
 obtain ⟨m,zo,zc,zl⟩:=ce
 exact ⟨b,off,m,zo,zc,zl,rfl,rfl,fun V K => ⟨hc 0 _ rfl V K,hc 1 _ rfl V K⟩,hok⟩
def mOk (rows:List LE):Bool:=decide (rows.length≤48) && rows.all (fun r => cOk rows.length (-1) r.cs)
theorem allM_at {rs:List LE} {f:LE→Bool} {i:Nat} (hi:i < rs.length):(rs.drop i).all f = (f rs[i] && (rs.drop (i + 1)).all f):=by
 rw [List.drop_eq_getElem_cons hi,List.all_cons]
theorem rgt_any (z:ZE) (w:World) (hz:z.ok w) :
  Calls Tryz.prog 38 #[.agg #[.bool z.neg,z.v]] w fun e w' => Kept w w'∧e = .returned (.bool z.right):=by
 cases h:z.right with
 | true => exact (right_yes z.neg z.v z.lim w hz.1 (right_R.1 h)).mono fun e w' ⟨h1,h2⟩ => ⟨h2,h1⟩
 | false => exact (right_no z.neg z.v z.lim w hz.1 hz.2 (fun hr => by rw [right_R.2 hr] at h; cases h)).mono fun e w' ⟨h1,h2⟩ => ⟨h2,h1⟩
end Bm
end Go.Proofs.YtdcgdpbgnijnpaaGreat

namespace Go.Proofs.YtdcgdpbgnijnpaaGreat
open Go.RowKit
open V (RowL RowL.alloc RowL.lt RowL.cell RowL.fz RowL.kept RowL.block RowL.set RowL.far)
namespace Bm
open Sp (hid)
open Sy
def ZI (w:World) (s:Bool) (v:Value) (z:Int):Prop:=∃ l,Sl w v l∧M.Right s l∧M.int s l = z
theorem ZI.kept {w w':World} {s:Bool} {v:Value} {z:Int} (h:ZI w s v z) (k:Kept w w'):ZI w' s v z:=by
 obtain ⟨l,h1,h2⟩:=h
 exact ⟨l,h1.kept k,h2⟩
theorem ZI.of {w:World} {z:ZE} (h:z.ok w) (hr:z.right = true):ZI w z.neg z.v (M.int z.neg z.lim):=⟨z.lim,h.1,(right_R.1 hr).right h.1.1,rfl⟩
theorem ZI.len {w:World} {s:Bool} {ao:Option Addr} {k cap:Nat} {z:Int} (h:ZI w s (.slice ao k cap) z):k≤72:=by
 obtain ⟨l,h1,h2,_⟩:=h
 have:=h1.len
 have:=h2.len
 omega
theorem same_zi (m n:Bool) (va vb:Value) (x y:Int) (w:World) (ha:ZI w m va x) (hb:ZI w n vb y) :
  Calls Tryz.prog 32 #[.agg #[.bool m,va],.agg #[.bool n,vb]] w fun e w' => Kept w w'∧e = .returned (.bool (decide (x = y))):=by
 obtain ⟨a,h1,h2,rfl⟩:=ha
 obtain ⟨b,g1,g2,rfl⟩:=hb
 have l1:=h2.len
 have l2:=g2.len
 by_cases h:M.int m a = M.int n b
 ·
  obtain ⟨e1,e2⟩:=M.int_inj h2 g2 h
  rw [decide_eq_true h]
  exact (same_yes m n va vb a b w h1 g1 (by omega) e1 e2).mono fun e w' ⟨i,j⟩ => ⟨j,i⟩
 ·
  rw [decide_eq_false h]
  exact (same_no m n va vb a b w h1 g1 (by omega) (by omega) (fun ⟨e1,e2⟩ => h (by rw [e1,e2]))).mono fun e w' ⟨i,j⟩ => ⟨j,i⟩
set_option maxRecDepth 100000 in
set_option maxHeartbeats 4000000 in
theorem same14_any (m n:Bool) (ao bo:Option Addr) (k cap j cbp:Nat) (x y:Int) (w:World) (ha:ZI w m (.slice ao k cap) x) (hb:ZI w n (.slice bo j cbp) y) :
  Calls Tryz.prog 11 #[.agg #[.bool m,.slice ao k cap],.agg #[.bool n,.slice bo j cbp]] w fun e w' => Kept w w'∧e = .returned (.bool (decide (x = y))):=by
 obtain ⟨z,hz⟩:∃ z,z = decide (x = y):=⟨_,rfl⟩
 rw [← hz]
 have HZ:=hid (And.intro ha (And.intro hb hz))
 clear ha hb hz
 have kA:=((Kept.refl w).alloc (.cells #[.bool m,.slice ao k cap] 37)).alloc (.cells #[.bool n,.slice bo j cbp] 37)
 have HK:=hid kA
 clear kA
 go_enter Tryz.func11,Tryz.ntmps11
 go_wp2_with fail
 have h9:=same_zi m n _ _ x y _ (HZ.out.1.kept HK.out) (HZ.out.2.1.kept HK.out)
 rw [← HZ.out.2.2] at h9
 refine h9.mono ?_
 clear h9
 rintro e w1 ⟨hk,rfl⟩
 have HK:=hid (HK.out.trans hk)
 clear hk
 go_wp2_with fail
 go_ret
 exact ⟨HK.out,rfl⟩
set_option maxRecDepth 100000 in
set_option maxHeartbeats 4000000 in
theorem cell14_any (c x:Int) (w:World) (h1:-9223372036854775808≤x) (h2:x≤9223372036854775807) :
  Calls Tryz.prog 16 #[.int .i64 c,.int .i64 x] w fun e w' => Kept w w'∧∃ s ao k cap l,e = .returned (.agg #[.int .i64 c,.bool s,.slice ao k cap])∧New w.heap.size w' (.slice ao k cap) l∧M.Right s l∧M.int s l = x:=by
 have kA:=(Kept.refl w).alloc (.cells #[.int .i64 0,.bool false,.slice none 0 0] 39)
 have rA:=RowL.alloc 39 w [.int .i64 0,.bool false,.slice none 0 0]
 have sA:=alloc_sz w (.cells #[.int .i64 0,.bool false,.slice none 0 0] 39)
 go_enter Tryz.func16,Tryz.ntmps16
 go_upto_region 1 with fail
 generalize w.alloc (.cells #[.int .i64 0,.bool false,.slice none 0 0] 39) = W at kA rA sA ⊢
 obtain ⟨q,hq⟩:∃ q,q = w.heap.size:=⟨_,rfl⟩
 rw [← hq] at rA ⊢
 have HW:=hid (And.intro kA (And.intro rA (And.intro sA hq)))
 clear kA rA sA hq
 go_wp2_with fail
 refine (of_any x W h1 h2).mono ?_
 rintro e w1 ⟨hk,s,ao,k,cap,l,rfl,hn,hr,hi⟩
 have HR:=hid (And.intro hn (And.intro hr hi))
 have HW:=hid (And.intro (HW.out.1.trans hk) (And.intro (HW.out.2.1.kept hk) HW.out.2.2))
 clear hk hn hr hi
 have d0:=HW.out.2.1.cell 0 _
 have d1:=HW.out.2.1.cell 1 _
 have d2:=HW.out.2.1.cell 2 _
 have f0:=HW.out.2.1.fz 0
 have f1:=HW.out.2.1.fz 1
 have f2:=HW.out.2.1.fz 2
 --%A
 go_wp2_with fail
 --%B
 refine bodyPost_ret (v:=.agg #[.int .i64 c,.bool s,.slice ao k cap]) (by simp [results,Tryz.results16,go_sem,d0,d1,d2]) rfl ⟨?_,s,ao,k,cap,l,rfl,?_,HR.out.2⟩
 ·
  exact ((HW.out.1.setCell (by simp; have:=HW.out.2.2.2; omega) _).setCell (by simp; have:=HW.out.2.2.2; omega) _).setCell (by simp; have:=HW.out.2.2.2; omega) _
 ·
  refine New.mono (((HR.out.1.other ?_ _).other ?_ _).other ?_ _) ?_
  all_goals (have h1:=HW.out.2.2.1; have h2:=HW.out.2.2.2; simp; omega)
end Bm
end Go.Proofs.YtdcgdpbgnijnpaaGreat

namespace Go.Proofs.YtdcgdpbgnijnpaaGreat
open Go.RowKit
open V (RowL RowL.alloc RowL.lt RowL.cell RowL.fz RowL.kept RowL.block RowL.set RowL.far)
namespace Bm
open Sp (hid)
open Sy
def ZA (w:World) (s:Bool) (v:Value) (c z:Int):Prop:=(c = 0∧ZI w s v z) ∨ (c = 13∧s = false∧v = .slice none 0 0)
theorem ZA.kept {w w':World} {s:Bool} {v:Value} {c z:Int} (h:ZA w s v c z) (k:Kept w w'):ZA w' s v c z:=by
 rcases h with ⟨h1,h2⟩ | h
 ·
  exact .inl ⟨h1,h2.kept k⟩
 ·
  exact .inr h
theorem ZA.of {B:Nat} {w:World} {s:Bool} {v:Value} {c z:Int} (h:Fin B w s v c z):ZA w s v c z:=by
 rcases h with ⟨h1,l,h2,h3,h4⟩ | ⟨h1,h2,h3,_⟩
 ·
  exact .inl ⟨h1,l,h2.sl,h3,h4⟩
 ·
  exact .inr ⟨h1,h2,h3⟩
abbrev ZB (w:World) (p:Nat) (s:Bool) (v:Value):Prop:=RowL 37 w p [.bool s,v]
end Bm
end Go.Proofs.YtdcgdpbgnijnpaaGreat

namespace Go.Proofs.YtdcgdpbgnijnpaaGreat
open Go.RowKit
open V (RowL RowL.alloc RowL.lt RowL.cell RowL.fz RowL.kept RowL.block RowL.set RowL.far)
namespace Bm
open Sp (hid)
open Sy
def ZP (p q:Nat) (w:World) (s:Bool) (v:Value) (z:Int):Prop:=∃ l,Sl w v l∧M.Right s l∧M.int s l = z∧∀ b o n c,v = .slice (some ⟨b,o,none⟩) n c→b ≠ p∧b ≠ q
theorem ZP.zi {p q:Nat} {w:World} {s:Bool} {v:Value} {z:Int} (h:ZP p q w s v z):ZI w s v z:=by
 obtain ⟨l,h1,h2,h3,_⟩:=h
 exact ⟨l,h1,h2,h3⟩
theorem ZP.kept {p q:Nat} {w w':World} {s:Bool} {v:Value} {z:Int} (h:ZP p q w s v z) (k:Kept w w'):ZP p q w' s v z:=by
 obtain ⟨l,h1,h2,h3,h4⟩:=h
 exact ⟨l,h1.kept k,h2,h3,h4⟩
theorem new_at {B:Nat} {w:World} {v:Value} {l:List Nat} (h:New B w v l):∀ b o n c,v = .slice (some ⟨b,o,none⟩) n c→B≤b∧b < w.heap.size:=by
 intro b o n c e
 obtain ⟨_,⟨rfl,_⟩ | ⟨b',N,f,rfl,hB,hN,hr,hf⟩⟩:=h
 ·
  cases e
 ·
  simp only [Value.slice.injEq,Option.some.injEq,Addr.mk.injEq] at e
  obtain ⟨⟨rfl,_⟩,_⟩:=e
  exact ⟨hB,World.rowIs.lt hr⟩
theorem ZP.of {B p q:Nat} {w:World} {s:Bool} {v:Value} {l:List Nat} {z:Int} (h:New B w v l) (hr:M.Right s l) (hz:M.int s l = z) (hp:p < B) (hq:q < B ∨ w.heap.size≤q):ZP p q w s v z :=
 ⟨l,h.sl,hr,hz,fun b o n c e => by have:=new_at h b o n c e; omega⟩
def xz (xs:List ZE) (j:Nat):Int:=match xs[j]? with | some z => M.int z.neg z.lim | none => 0
def rowZ (xs:List ZE):List CE→Int
 | [] => 0
 | c :: t => rowZ xs t + M.int c.val.neg c.val.lim * xz xs c.col.toNat
theorem rowZ_snoc (xs:List ZE) (c:CE):∀ t,rowZ xs (t ++ [c]) = rowZ xs t + M.int c.val.neg c.val.lim * xz xs c.col.toNat
 | [] => by simp [rowZ]
 | d :: t => by
  show rowZ xs (t ++ [c]) + _ = (rowZ xs t + _) + _
  rw [rowZ_snoc xs c t]
  omega
theorem rowZ_take {xs:List ZE} {L:List CE} {k:Nat} (hk:k < L.length):rowZ xs (L.take (k + 1)) = rowZ xs (L.take k) + M.int L[k].val.neg L[k].val.lim * xz xs L[k].col.toNat:=by
 rw [List.take_add_one,List.getElem?_eq_getElem hk]
 exact rowZ_snoc xs _ _
def RowIs (w:World) (e:Ending) (z:Int):Prop:=∃ s ao k cap ok,e = .returned (.tuple #[.agg #[.bool s,.slice ao k cap],.bool ok])∧(ok = true→ZI w s (.slice ao k cap) z)
end Bm
end Go.Proofs.YtdcgdpbgnijnpaaGreat

namespace Go.Proofs.YtdcgdpbgnijnpaaGreat
open Go.RowKit
open V (RowL RowL.alloc RowL.lt RowL.cell RowL.fz RowL.kept RowL.block RowL.set RowL.far)
namespace Bm
open Sp (hid)
open Sy
def Light (rows:List LE) (bs:List ZE):Prop:=rows.length≤61∧(∀ r ∈ rows,r.cs.length≤60∧∀ c ∈ r.cs,c.val.lim.length≤600)∧bs.length≤61∧∀ z ∈ bs,z.lim.length≤600
def Seen (N:Nat) (cs:List CE):Prop:=∀ c ∈ cs,min 1000 c.val.lim.length≤N
def SeenR (N:Nat) (rows:List LE):Prop:=∀ r ∈ rows,r.cs.length≤60∧Seen N r.cs
def SeenB (N:Nat) (bs:List ZE):Prop:=∀ z ∈ bs,min 1000 z.lim.length≤N
theorem Seen.up {N M:Nat} {cs:List CE} (h:Seen N cs) (hm:N≤M):Seen M cs:=fun c hc => Nat.le_trans (h c hc) hm
theorem SeenR.up {N M:Nat} {rs:List LE} (h:SeenR N rs) (hm:N≤M):SeenR M rs:=fun r hr => ⟨(h r hr).1,(h r hr).2.up hm⟩
theorem SeenB.up {N M:Nat} {bs:List ZE} (h:SeenB N bs) (hm:N≤M):SeenB M bs:=fun c hc => Nat.le_trans (h c hc) hm
theorem mem_take_s {α:Type} {l:List α} {k:Nat} (hk:k < l.length) {x:α} (hx:x ∈ l.take (k + 1)):x ∈ l.take k ∨ x = l[k]:=by
 rw [List.take_add_one,List.getElem?_eq_getElem hk] at hx
 rcases List.mem_append.1 hx with h | h
 ·
  exact Or.inl h
 ·
  exact Or.inr (List.mem_singleton.1 h)
def HeavyIs (rows:List LE) (bs:List ZE) (e:Ending):Prop:=∃ b,e = .returned (.bool b)∧(b = false→Light rows bs)
theorem HeavyIs.of {rows:List LE} {bs:List ZE} {e:Ending} (b:Bool) (h:e = .returned (.bool b)) (hf:b = false→Light rows bs):HeavyIs rows bs e:=⟨b,h,hf⟩
theorem seen_light {N:Nat} {rows:List LE} {bs:List ZE} (h1:SeenR N rows) (h2:SeenB N bs) (hN:N≤600) (h3:rows.length≤61) (h4:bs.length≤61):Light rows bs :=
 ⟨h3,fun r hr => ⟨(h1 r hr).1,fun c hc => by have:=(h1 r hr).2 c hc; omega⟩,h4,fun z hz => by have:=h2 z hz; omega⟩
set_option maxRecDepth 100000 in
set_option maxHeartbeats 8000000 in
theorem heavy_any (ao bo:Option Addr) (n cap nb capb:Nat) (rows:List LE) (bs:List ZE) (w:World) (h:MxR w ao rows) (hb:ZsR w bo bs) (hl:n = rows.length) (hlb:nb = bs.length) (hn:n≤1000000000000000) (hnb:nb≤1000000000000000) (hs:∀ r ∈ rows,r.cs.length≤1000000000000000) :
  Calls Tryz.prog 5 #[.slice ao n cap,.slice bo nb capb] w fun e w' => Kept w w'∧HeavyIs rows bs e:=by
 have HL:=hid (And.intro h (And.intro hl (And.intro hs (And.intro hb hlb))))
 clear h hl hs hb hlb
 go_enter Tryz.func5,Tryz.ntmps5
 go_wp2_with fail
 --%A
 go_loopw [5,12] (fun v5 v12 wr => ∃ (i N:Nat),i≤n∧i≤61∧N≤i * 60060∧v5 = .int .i64 (N:Int)∧v12 = .int .i64 (i:Int)∧Hid (Kept w wr∧SeenR N (rows.take i))) (fun _ v12 _ => n - (intOf v12).toNat)
 case atStart => exact ⟨0,0,Nat.zero_le _,by omega,by omega,rfl,rfl,Kept.refl _,fun r hr => by simp at hr⟩
 case round =>
  obtain ⟨i,N,hil,hi6,hNb,rfl,rfl,H⟩:=hrel
  generalize wr = w0 at H ⊢
  by_cases hit:i < n
  ·
   have hii:(i:Int) < (n:Int):=by omega
   have hi0:(0:Int)≤(i:Int):=by omega
   have hiL:i < rows.length:=by have:=HL.out.2.1; omega
   obtain ⟨b,off,ra,rc,row,rfl,hre,hc,hI⟩:=mxr_at HL.out.1 hiL
   have HC:=hid hc
   have HI:=hid hI
   have HRE:=hid hre
   have hlen:row.length≤1000000000000000:=by have:=HL.out.2.2.1 _ (List.getElem_mem hiL); rw [hre] at this; exact this
   obtain ⟨rl,hrl⟩:∃ r,r = row.length:=⟨_,rfl⟩
   rw [← hrl] at HC hlen
   have HR:=hid hrl
   clear hc hI hrl hre
   have c9:=HC.out _ H.out.1
   by_cases h60:60 < i
   ·
    have h1:(60:Int) < (i:Int):=by omega
    go_wp2_with fail
    go_ret
    exact ⟨H.out.1,HeavyIs.of true rfl fun h => by cases h⟩
   ·
    have h1:¬ (60:Int) < (i:Int):=by omega
    by_cases h61:60 < rl
    ·
     have h2:(60:Int) < (rl:Int):=by omega
     go_wp2_with fail
     go_ret
     exact ⟨H.out.1,HeavyIs.of true rfl fun h => by cases h⟩
    ·
     have h2:¬ (60:Int) < (rl:Int):=by omega
     go_wp2_with fail
     --%B
     go_loopw [5,30] (fun v5 v30 wr => ∃ (k M:Nat),k≤rl∧M≤i * 60060 + k * 1001∧v5 = .int .i64 (M:Int)∧v30 = .int .i64 (k:Int)∧Hid (Kept w wr∧SeenR M (rows.take i)∧Seen M (row.take k))) (fun _ v30 _ => rl - (intOf v30).toNat)
     case atStart => exact ⟨0,N,Nat.zero_le _,Nat.le_trans hNb (Nat.le_add_right _ _),rfl,rfl,H.out.1,H.out.2,fun r hr => by simp at hr⟩
     case round =>
      clear H c9
      obtain ⟨k,M,hkl,hMb,rfl,rfl,H⟩:=hrel
      generalize wr = w1 at H ⊢
      by_cases hkt:k < rl
      ·
       have hkk:(k:Int) < (rl:Int):=by omega
       have hk0:(0:Int)≤(k:Int):=by omega
       have hkL:k < row.length:=by have:=HR.out; omega
       obtain ⟨b2,o2,y,m,zo,zc,zl,rfl,hce,hd,hok⟩:=cel_at HI.out hkL
       obtain ⟨c0,c1,c2⟩:=hd _ H.out.1
       have HK:=hid H.out.1
       have hzl:zl.length≤9223372036854775807:=hok.2
       obtain ⟨nl,hnl⟩:∃ q,q = zl.length:=⟨_,rfl⟩
       rw [← hnl] at c2 hzl
       obtain ⟨mn,hmn⟩:∃ q,q = min 1000 nl:=⟨_,rfl⟩
       have hm1:mn≤1000:=by omega
       have hmz:(mn:Int) = if (nl:Int) < 1000 then (nl:Int) else 1000:=by split <;> omega
       have HN:=hid (show SeenR (M + (1 + mn)) (rows.take i)∧Seen (M + (1 + mn)) (row.take (k + 1)) from ⟨H.out.2.1.up (by omega),fun c hc => by
        rcases mem_take_s hkL hc with h | h
        ·
         exact (H.out.2.2.up (show M≤M + (1 + mn) by omega)) c h
        ·
         rw [h,hce]; show min 1000 zl.length≤_; omega⟩)
       have kA:=HK.out.alloc (.cells #[.int .i64 y,.bool m,.slice zo nl zc] 39)
       have rA:=RowL.alloc 39 w1 [.int .i64 y,.bool m,.slice zo nl zc]
       clear hd hok hce H hnl hmn
       go_upto_region 10 with fail
       generalize w1.alloc (.cells #[.int .i64 y,.bool m,.slice zo nl zc] 39) = W at kA rA ⊢
       obtain ⟨q,hq⟩:∃ q,q = w1.heap.size:=⟨_,rfl⟩
       rw [← hq] at rA ⊢
       have HW:=hid (And.intro kA rA)
       have d2:=rA.cell 2 _
       clear kA rA hq c0 c1 c2 HK
       --%C
       go_wp2_with fail
       --%D
       go_roundw
       case rel => exact ⟨k + 1,M + (1 + mn),by omega,by omega,by rw [← hmz]; go_num,by go_num,HW.out.1,HN.out⟩
       case measure => show rl - ((k:Int) + 1).toNat < rl - (k:Int).toNat; omega
      ·
       have hkk:¬ (k:Int) < (rl:Int):=by omega
       have HE:=hid (show SeenR M (rows.take (i + 1)) from fun r hr => by
        rcases mem_take_s hiL hr with h | h
        ·
         exact H.out.2.1 r h
        ·
         rw [h,HRE.out]
         refine ⟨by show row.length≤60; have:=HR.out; omega,?_⟩
         have:=H.out.2.2
         rw [List.take_of_length_le (by have:=HR.out; omega)] at this
         exact this)
       go_wp2_with fail
       --%E
       go_roundw
       case rel => exact ⟨i + 1,M,by omega,by omega,by omega,rfl,by go_num,H.out.1,HE.out⟩
       case measure => show n - ((i:Int) + 1).toNat < n - (i:Int).toNat; omega
  ·
   have hii:¬ (i:Int) < (n:Int):=by omega
   have hni:i = n:=by omega
   have H:=hid (And.intro H.out.1 (show SeenR N rows by have:=H.out.2; rw [List.take_of_length_le (by have:=HL.out.2.1; omega)] at this; exact this))
   have hn6:n≤61:=by omega
   have hNb:N≤3663660:=by omega
   subst hni
   go_wp2_with fail
   --%F
   go_loopw [5,46] (fun v5 v46 wr => ∃ (k M:Nat),k≤nb∧k≤61∧M≤3663660 + k * 1000∧v5 = .int .i64 (M:Int)∧v46 = .int .i64 (k:Int)∧Hid (Kept w wr∧SeenR M rows∧SeenB M (bs.take k))) (fun _ v46 _ => nb - (intOf v46).toNat)
   case atStart => exact ⟨0,N,Nat.zero_le _,Nat.zero_le _,Nat.le_trans hNb (Nat.le_add_right _ _),rfl,rfl,H.out.1,H.out.2,fun r hr => by simp at hr⟩
   case round =>
    clear H
    obtain ⟨k,M,hkl,hk6,hMb,rfl,rfl,H⟩:=hrel
    generalize wr = w1 at H ⊢
    by_cases hkt:k < nb
    ·
     have hkk:(k:Int) < (nb:Int):=by omega
     have hk0:(0:Int)≤(k:Int):=by omega
     have hkL:k < bs.length:=by have:=HL.out.2.2.2.2; omega
     by_cases h60:60 < k
     ·
      have h1:(60:Int) < (k:Int):=by omega
      go_wp2_with fail
      go_ret
      exact ⟨H.out.1,HeavyIs.of true rfl fun h => by cases h⟩
     ·
      have h1:¬ (60:Int) < (k:Int):=by omega
      obtain ⟨b2,o2,m,zo,zc,zl,rfl,hce,hd,hok⟩:=zsr_at HL.out.2.2.2.1 hkL
      obtain ⟨c0,c1⟩:=hd _ H.out.1
      have hzl:zl.length≤9223372036854775807:=hok.2
      obtain ⟨nl,hnl⟩:∃ q,q = zl.length:=⟨_,rfl⟩
      rw [← hnl] at c1 hzl
      obtain ⟨mn,hmn⟩:∃ q,q = min 1000 nl:=⟨_,rfl⟩
      have hm1:mn≤1000:=by omega
      have hmz:(mn:Int) = if (nl:Int) < 1000 then (nl:Int) else 1000:=by split <;> omega
      have HN:=hid (show SeenR (M + mn) rows∧SeenB (M + mn) (bs.take (k + 1)) from ⟨H.out.2.1.up (by omega),fun c hc => by
       rcases mem_take_s hkL hc with h | h
       ·
        exact (H.out.2.2.up (show M≤M + mn by omega)) c h
       ·
        rw [h,hce]; show min 1000 zl.length≤_; omega⟩)
      clear hd hok hce hnl hmn
      go_wp2_with fail
      --%G
      go_roundw
      case rel => exact ⟨k + 1,M + mn,by omega,by omega,by omega,by rw [← hmz]; go_num,by go_num,H.out.1,HN.out⟩
      case measure => show nb - ((k:Int) + 1).toNat < nb - (k:Int).toNat; omega
    ·
     have hkk:¬ (k:Int) < (nb:Int):=by omega
     have hkn:k = nb:=by omega
     have H:=hid (And.intro H.out.1 (And.intro H.out.2.1 (show SeenB M bs by have:=H.out.2.2; rw [List.take_of_length_le (by have:=HL.out.2.2.2.2; omega)] at this; exact this)))
     have HF:=hid (show M≤600→Light rows bs from fun hM => seen_light H.out.2.1 H.out.2.2 hM (by have:=HL.out.2.1; omega) (by have:=HL.out.2.2.2.2; omega))
     have HK:=hid H.out.1
     clear H
     --%H
     by_cases g1:600 < M
     ·
      have h1:(600:Int) < (M:Int):=by omega
      go_wp2_with fail
      go_ret
      exact ⟨HK.out,HeavyIs.of true rfl fun h => by cases h⟩
     ·
      have h1:¬ (600:Int) < (M:Int):=by omega
      by_cases g2:12 < i
      ·
       have h2:(12:Int) < (i:Int):=by omega
       go_wp2_with fail
       go_ret
       exact ⟨HK.out,HeavyIs.of _ rfl fun _ => HF.out (by omega)⟩
      ·
       have h2:¬ (12:Int) < (i:Int):=by omega
       go_wp2_with fail
       go_ret
       exact ⟨HK.out,HeavyIs.of _ rfl fun _ => HF.out (by omega)⟩
end Bm
end Go.Proofs.YtdcgdpbgnijnpaaGreat

namespace Go.Proofs.YtdcgdpbgnijnpaaGreat
open Go.RowKit
open V (RowL RowL.alloc RowL.lt RowL.cell RowL.fz RowL.kept RowL.block RowL.set RowL.far)
namespace Bm
open Sp (hid)
open Sy
set_option maxRecDepth 100000 in
set_option maxHeartbeats 8000000 in
theorem fault_any (ao:Option Addr) (n cap:Nat) (rows:List LE) (w:World) (h:MxR w ao rows) (hl:n = rows.length) (hn:n≤1000000) (hs:∀ r ∈ rows,r.cs.length≤1000000) :
  Calls Tryz.prog 22 #[.slice ao n cap] w fun e w' => Kept w w'∧e = .returned (.int .i64 (if mOk rows = true then 0 else 130)):=by
 have HL:=hid (And.intro h (And.intro hl hs))
 obtain ⟨z,hz⟩:∃ z:Int,z = if mOk rows = true then 0 else 130:=⟨_,rfl⟩
 have HZ:=hid (show z = if (decide (n≤48) && rows.all (fun r => cOk n (-1) r.cs)) = true then 0 else 130 by rw [hz,hl]; rfl)
 rw [← hz]
 clear h hl hs hz
 go_enter Tryz.func22,Tryz.ntmps22
 by_cases h48:48 < n
 ·
  have h1:(48:Int) < (n:Int):=by omega
  have HE:=hid (show z = 130 by rw [HZ.out,decide_eq_false (by omega)]; rfl)
  go_wp2_with fail
  go_ret
  exact ⟨Kept.refl w,by rw [HE.out]; rfl⟩
 ·
  have h1:¬ (48:Int) < (n:Int):=by omega
  have HZ:=hid (show z = if (rows.drop 0).all (fun r => cOk n (-1) r.cs) = true then 0 else 130 by rw [HZ.out,decide_eq_true (by omega),Bool.true_and]; rfl)
  go_wp2_with fail
  --%A
  go_loopw [4] (fun v4 wr => ∃ (i:Nat),i≤n∧v4 = .int .i64 (i:Int)∧Hid (Kept w wr∧z = if (rows.drop i).all (fun r => cOk n (-1) r.cs) = true then 0 else 130)) (fun v4 _ => n - (intOf v4).toNat)
  case atStart => exact ⟨0,Nat.zero_le _,rfl,Kept.refl _,HZ.out⟩
  case round =>
   clear HZ
   obtain ⟨i,hil,rfl,H⟩:=hrel
   generalize wr = w0 at H ⊢
   by_cases hit:i < n
   ·
    have hii:(i:Int) < (n:Int):=by omega
    have hi0:(0:Int)≤(i:Int):=by omega
    have hiL:i < rows.length:=by have:=HL.out.2.1; omega
    obtain ⟨b,off,ra,rc,row,rfl,hre,hc,hI⟩:=mxr_at HL.out.1 hiL
    have HC:=hid hc
    have HI:=hid hI
    have hlen:row.length≤1000000:=by have:=HL.out.2.2 _ (List.getElem_mem hiL); rw [hre] at this; exact this
    have H:=hid (And.intro H.out.1 (show z = if (cOk n (-1) row && (rows.drop (i + 1)).all (fun r => cOk n (-1) r.cs)) = true then 0 else 130 by have:=H.out.2; rw [allM_at hiL,hre] at this; exact this))
    obtain ⟨rl,hrl⟩:∃ r,r = row.length:=⟨_,rfl⟩
    rw [← hrl] at HC hlen
    have HR:=hid hrl
    obtain ⟨rest,hrs⟩:∃ r,r = (rows.drop (i + 1)).all (fun r => cOk n (-1) r.cs):=⟨_,rfl⟩
    rw [← hrs] at H
    have HRS:=hid hrs
    clear hrs hc hI hrl hre
    go_wp2_with fail
    --%B
    go_loopw [5,6] (fun v5 v6 wr => ∃ (k:Nat) (x:Int),k≤rl∧v5 = .int .i64 x∧v6 = .int .i64 (k:Int)∧Hid (Kept w wr∧z = if (cOk n x (row.drop k) && rest) = true then 0 else 130)) (fun _ v6 _ => rl - (intOf v6).toNat)
    case atStart => exact ⟨0,-1,Nat.zero_le _,rfl,rfl,H.out.1,H.out.2⟩
    case round =>
     clear H
     obtain ⟨k,x,hkl,rfl,rfl,H⟩:=hrel
     generalize wr = w1 at H ⊢
     have c9:=HC.out _ H.out.1
     by_cases hkt:k < rl
     ·
      have hkk:(k:Int) < (rl:Int):=by omega
      have hk0:(0:Int)≤(k:Int):=by omega
      have hkL:k < row.length:=by have:=HR.out; omega
      obtain ⟨b2,o2,y,m,zo,zc,zl,rfl,hce,hd,hok⟩:=cel_at HI.out hkL
      have HZE:=hid hok
      obtain ⟨c0,c1,c2⟩:=hd _ H.out.1
      obtain ⟨xr,hxr⟩:∃ x,x = ZE.right ⟨m,zo,zc,zl⟩:=⟨_,rfl⟩
      obtain ⟨xn,hxn⟩:∃ x,x = ZE.nought ⟨m,zo,zc,zl⟩:=⟨_,rfl⟩
      have HN:=hid (show z = if ((((decide (x < y) && decide (y < (n:Int))) && (xr && !xn)) && cOk n y (row.drop (k + 1))) && rest) = true then 0 else 130 by rw [H.out.2,cOk_at hkL,hce,hxr,hxn])
      have HX:=hid hxr
      have HK:=hid H.out.1
      have hzl:zl.length≤9223372036854775807:=hok.2
      have hx9:xn = decide (zl.length = 0):=hxn
      obtain ⟨nl,hnl⟩:∃ q,q = zl.length:=⟨_,rfl⟩
      rw [← hnl] at c2 hzl hx9
      have HNL:=hid hnl
      have hnz:((nl:Int) == 0) = xn:=by rw [hx9]; by_cases h:nl = 0 <;> simp [h]
      have HNZ:=hid hnz
      have kA:=HK.out.alloc (.cells #[.int .i64 y,.bool m,.slice zo nl zc] 39)
      have rA:=RowL.alloc 39 w1 [.int .i64 y,.bool m,.slice zo nl zc]
      clear hd hok hce H hxr hxn hnl hx9 hnz
      go_upto_region 12 with fail
      generalize w1.alloc (.cells #[.int .i64 y,.bool m,.slice zo nl zc] 39) = W at kA rA ⊢
      obtain ⟨q,hq⟩:∃ q,q = w1.heap.size:=⟨_,rfl⟩
      rw [← hq] at rA ⊢
      have HW:=hid (And.intro kA rA)
      have d0:=rA.cell 0 _
      have d1:=rA.cell 1 _
      have d2:=rA.cell 2 _
      clear kA rA hq c0 c1 c2 HK c9
      --%C
      by_cases e1:y≤x
      ·
       have HE:=hid (show z = 130 by rw [HN.out,decide_eq_false (show ¬ x < y by omega)]; rfl)
       go_wp2_with fail
       go_ret
       exact ⟨HW.out.1,by rw [HE.out]; rfl⟩
      ·
       by_cases e2:(n:Int)≤y
       ·
        have HE:=hid (show z = 130 by rw [HN.out,decide_eq_false (show ¬ y < (n:Int) by omega),Bool.and_false]; rfl)
        go_wp2_with fail
        go_ret
        exact ⟨HW.out.1,by rw [HE.out]; rfl⟩
       ·
        have HN:=hid (show z = if (((xr && !xn) && cOk n y (row.drop (k + 1))) && rest) = true then 0 else 130 by rw [HN.out,decide_eq_true (show x < y by omega),decide_eq_true (show y < (n:Int) by omega),Bool.true_and,Bool.true_and])
        go_wp2_with fail
        --%D
        have h9:=rgt_any ⟨m,zo,zc,zl⟩ W (HZE.out.kept HW.out.1)
        rw [← HX.out] at h9
        have h9:Calls Tryz.prog 38 #[.agg #[.bool m,.slice zo nl zc]] W fun e w' => Kept W w'∧e = .returned (.bool xr):=by rw [HNL.out]; exact h9
        refine h9.mono ?_
        clear h9
        rintro e w2 ⟨hk,rfl⟩
        have HW:=hid (And.intro (HW.out.1.trans hk) (HW.out.2.kept hk))
        clear d0 d1 d2 hk
        have d0:=HW.out.2.cell 0 _
        have d1:=HW.out.2.cell 1 _
        have d2:=HW.out.2.cell 2 _
        cases xr with
        | false =>
         have HE:=hid (show z = 130 by rw [HN.out]; rfl)
         go_wp2_with fail
         go_ret
         exact ⟨HW.out.1,by rw [HE.out]; rfl⟩
        | true =>
         by_cases h0:nl = 0
         ·
          have HE:=hid (show z = 130 by rw [HN.out,← HNZ.out,h0]; rfl)
          subst h0
          go_wp2_with fail
          go_ret
          exact ⟨HW.out.1,by rw [HE.out]; rfl⟩
         ·
          have h0':((nl:Int) == 0) = false:=by simp; omega
          have HE:=hid (show z = if (cOk n y (row.drop (k + 1)) && rest) = true then 0 else 130 by rw [HN.out,← HNZ.out,h0']; rfl)
          clear h0
          go_wp2_with fail
          go_roundw
          case rel => exact ⟨k + 1,y,by omega,rfl,by go_num,HW.out.1,HE.out⟩
          case measure => show rl - ((k:Int) + 1).toNat < rl - (k:Int).toNat; omega
     ·
      have hkk:¬ (k:Int) < (rl:Int):=by omega
      have HE:=hid (show z = if rest = true then 0 else 130 by rw [H.out.2,List.drop_eq_nil_of_le (by have:=HR.out; omega)]; rfl)
      go_wp2_with fail
      --%E
      go_roundw
      case rel => exact ⟨i + 1,by omega,by go_num,H.out.1,by rw [← HRS.out]; exact HE.out⟩
      case measure => show n - ((i:Int) + 1).toNat < n - (i:Int).toNat; omega
   ·
    have hii:¬ (i:Int) < (n:Int):=by omega
    have HE:=hid (show z = 0 by rw [H.out.2,List.drop_eq_nil_of_le (by have:=HL.out.2.1; omega)]; rfl)
    go_wp2_with fail
    go_ret
    exact ⟨H.out.1,by rw [HE.out]; rfl⟩
end Bm
end Go.Proofs.YtdcgdpbgnijnpaaGreat

/- A matrix (rows of cells) and a list of whole numbers, in memory; is a matrix right? shuntlaw14.same, place, cell, over. shuntlaw14.heavy. shuntlaw14.over. shuntlaw14.row. -/
import Derived.Test.YtlfhcbeniimnnaaGreatGai
import Derived.Test.YtlfhcbeniimnnaaGreatGac
import Derived.Test.YtlfhcbeniimnnaaGreatRtake
import Derived.Test.YtlfhcbeniimnnaaGreatGaf
namespace Go.Proofs.YtlfhcbeniimnnaaGreat
open Go.RowKit
namespace Bm
open Sp (hid)
open Sy
abbrev MxR:=LR 1 (fun l:LE => [l.v]) (fun w l => CsR w l.ao l.cs)
theorem mxr_kept {w w':World} {ao:Option Addr} {L:List LE} (h:MxR w ao L) (k:Kept w w'):MxR w' ao L:=LR.kept h k (fun _ ho => csr_kept ho k)
abbrev ZsR:=LR 2 ZE.cells ZE.ok
theorem zsr_kept {w w':World} {ao:Option Addr} {L:List ZE} (h:ZsR w ao L) (k:Kept w w'):ZsR w' ao L:=LR.kept h k (fun _ ho => ZE.ok.kept ho k)
theorem mxr_at {w:World} {ao:Option Addr} {L:List LE} (h:MxR w ao L) {i:Nat} (hi:i < L.length):∃ (b off:Nat) (ra:Option Addr) (rc:Nat) (cs:List CE),ao = some ⟨b,off,none⟩∧L[i] = ⟨ra,rc,cs⟩∧(∀ V,Kept w V→V.cell? ⟨b,off + i,none⟩ = some (.slice ra cs.length rc))∧CsR w ra cs:=by
 obtain ⟨b,off,rfl,hb,hc,hok⟩:=LR.at h hi
 generalize L[i] = l at hc hok ⊢
 obtain ⟨ra,rc,cs⟩:=l
 exact ⟨b,off,ra,rc,cs,rfl,rfl,fun V K => by have:=hc 0 _ rfl V K; rw [Nat.mul_one,Nat.add_zero] at this; exact this,hok⟩
theorem cel_at {w:World} {ao:Option Addr} {L:List CE} (h:CsR w ao L) {k:Nat} (hk:k < L.length):∃ (b off:Nat) (y:Int) (m:Bool) (zo:Option Addr) (zc:Nat) (zl:List Nat),ao = some ⟨b,off,none⟩∧L[k] = ⟨y,⟨m,zo,zc,zl⟩⟩∧(∀ V,Kept w V→V.cell? ⟨b,off + k * 3,none⟩ = some (.int .i64 y)∧V.cell? ⟨b,off + k * 3 + 1,none⟩ = some (.bool m)∧V.cell? ⟨b,off + k * 3 + 2,none⟩ = some (.slice zo zl.length zc))∧ZE.ok w ⟨m,zo,zc,zl⟩:=by
 obtain ⟨b,off,rfl,hb,hc,hok⟩:=LR.at h hk
 generalize L[k] = ce at hc hok ⊢
 obtain ⟨y,⟨m,zo,zc,zl⟩⟩:=ce
 exact ⟨b,off,y,m,zo,zc,zl,rfl,rfl,fun V K => ⟨hc 0 _ rfl V K,hc 1 _ rfl V K,hc 2 _ rfl V K⟩,hok⟩
theorem zsr_at {w:World} {ao:Option Addr} {L:List ZE} (h:ZsR w ao L) {k:Nat} (hk:k < L.length):∃ (b off:Nat) (m:Bool) (zo:Option Addr) (zc:Nat) (zl:List Nat),ao = some ⟨b,off,none⟩∧L[k] = ⟨m,zo,zc,zl⟩∧(∀ V,Kept w V→V.cell? ⟨b,off + k * 2,none⟩ = some (.bool m)∧V.cell? ⟨b,off + k * 2 + 1,none⟩ = some (.slice zo zl.length zc))∧ZE.ok w ⟨m,zo,zc,zl⟩:=by
 obtain ⟨b,off,rfl,hb,hc,hok⟩:=LR.at h hk
 generalize L[k] = ce at hc hok ⊢
 obtain ⟨m,zo,zc,zl⟩:=ce
 exact ⟨b,off,m,zo,zc,zl,rfl,rfl,fun V K => ⟨hc 0 _ rfl V K,hc 1 _ rfl V K⟩,hok⟩
def mOk (rows:List LE):Bool:=decide (rows.length≤48) && rows.all (fun r => cOk rows.length (-1) r.cs)
end Bm
end Go.Proofs.YtlfhcbeniimnnaaGreat

namespace Go.Proofs.YtlfhcbeniimnnaaGreat
open Go.RowKit
open V (RowL RowL.alloc RowL.lt RowL.cell RowL.fz RowL.kept RowL.block RowL.set RowL.far)
namespace Bm
open Sp (hid)
open Sy
def ZI (w:World) (s:Bool) (v:Value) (z:Int):Prop:=∃ l,Sl w v l∧M.Right s l∧M.int s l = z
theorem ZI.kept {w w':World} {s:Bool} {v:Value} {z:Int} (h:ZI w s v z) (k:Kept w w'):ZI w' s v z:=by
 obtain ⟨l,h1,h2⟩:=h
 exact ⟨l,h1.kept k,h2⟩
theorem ZI.of {w:World} {z:ZE} (h:z.ok w) (hr:z.right = true):ZI w z.neg z.v (M.int z.neg z.lim):=⟨z.lim,h.1,(right_R.1 hr).right h.1.1,rfl⟩
theorem ZI.len {w:World} {s:Bool} {ao:Option Addr} {k cap:Nat} {z:Int} (h:ZI w s (.slice ao k cap) z):k≤72:=by
 obtain ⟨l,h1,h2,_⟩:=h
 have:=h1.len
 have:=h2.len
 omega
theorem same_zi (m n:Bool) (va vb:Value) (x y:Int) (w:World) (ha:ZI w m va x) (hb:ZI w n vb y) :
  Calls Tryz.prog 46 #[.agg #[.bool m,va],.agg #[.bool n,vb]] w fun e w' => Kept w w'∧e = .returned (.bool (decide (x = y))):=by
 obtain ⟨a,h1,h2,rfl⟩:=ha
 obtain ⟨b,g1,g2,rfl⟩:=hb
 have l1:=h2.len
 have l2:=g2.len
 by_cases h:M.int m a = M.int n b
 ·
  obtain ⟨e1,e2⟩:=M.int_inj h2 g2 h
  rw [decide_eq_true h]
  exact (same_yes m n va vb a b w h1 g1 (by omega) e1 e2).mono fun e w' ⟨i,j⟩ => ⟨j,i⟩
 ·
  rw [decide_eq_false h]
  exact (same_no m n va vb a b w h1 g1 (by omega) (by omega) (fun ⟨e1,e2⟩ => h (by rw [e1,e2]))).mono fun e w' ⟨i,j⟩ => ⟨j,i⟩
set_option maxRecDepth 100000 in
set_option maxHeartbeats 4000000 in
theorem same14_any (m n:Bool) (ao bo:Option Addr) (k cap j cbp:Nat) (x y:Int) (w:World) (ha:ZI w m (.slice ao k cap) x) (hb:ZI w n (.slice bo j cbp) y) :
  Calls Tryz.prog 16 #[.agg #[.bool m,.slice ao k cap],.agg #[.bool n,.slice bo j cbp]] w fun e w' => Kept w w'∧e = .returned (.bool (decide (x = y))):=by
 obtain ⟨z,hz⟩:∃ z,z = decide (x = y):=⟨_,rfl⟩
 rw [← hz]
 have HZ:=hid (And.intro ha (And.intro hb hz))
 clear ha hb hz
 have kA:=((Kept.refl w).alloc (.cells #[.bool m,.slice ao k cap] 37)).alloc (.cells #[.bool n,.slice bo j cbp] 37)
 have HK:=hid kA
 clear kA
 go_enter Tryz.func16,Tryz.ntmps16
 go_wp2_with fail
 have h9:=same_zi m n _ _ x y _ (HZ.out.1.kept HK.out) (HZ.out.2.1.kept HK.out)
 rw [← HZ.out.2.2] at h9
 refine h9.mono ?_
 clear h9
 rintro e w1 ⟨hk,rfl⟩
 have HK:=hid (HK.out.trans hk)
 clear hk
 go_wp2_with fail
 go_ret
 exact ⟨HK.out,rfl⟩
set_option maxRecDepth 100000 in
set_option maxHeartbeats 4000000 in
theorem cell14_any (c x:Int) (w:World) (h1:-9223372036854775808≤x) (h2:x≤9223372036854775807) :
  Calls Tryz.prog 34 #[.int .i64 c,.int .i64 x] w fun e w' => Kept w w'∧∃ s ao k cap l,e = .returned (.agg #[.int .i64 c,.bool s,.slice ao k cap])∧New w.heap.size w' (.slice ao k cap) l∧M.Right s l∧M.int s l = x:=by
 have kA:=(Kept.refl w).alloc (.cells #[.int .i64 0,.bool false,.slice none 0 0] 39)
 have rA:=RowL.alloc 39 w [.int .i64 0,.bool false,.slice none 0 0]
 have sA:=alloc_sz w (.cells #[.int .i64 0,.bool false,.slice none 0 0] 39)
 go_enter Tryz.func34,Tryz.ntmps34
 go_upto_region 1 with fail
 generalize w.alloc (.cells #[.int .i64 0,.bool false,.slice none 0 0] 39) = W at kA rA sA ⊢
 obtain ⟨q,hq⟩:∃ q,q = w.heap.size:=⟨_,rfl⟩
 rw [← hq] at rA ⊢
 have HW:=hid (And.intro kA (And.intro rA (And.intro sA hq)))
 clear kA rA sA hq
 go_wp2_with fail
 refine (of_any x W h1 h2).mono ?_
 rintro e w1 ⟨hk,s,ao,k,cap,l,rfl,hn,hr,hi⟩
 have HR:=hid (And.intro hn (And.intro hr hi))
 have HW:=hid (And.intro (HW.out.1.trans hk) (And.intro (HW.out.2.1.kept hk) HW.out.2.2))
 clear hk hn hr hi
 have d0:=HW.out.2.1.cell 0 _
 have d1:=HW.out.2.1.cell 1 _
 have d2:=HW.out.2.1.cell 2 _
 have f0:=HW.out.2.1.fz 0
 have f1:=HW.out.2.1.fz 1
 have f2:=HW.out.2.1.fz 2
 --%A
 go_wp2_with fail
 --%B
 refine bodyPost_ret (v:=.agg #[.int .i64 c,.bool s,.slice ao k cap]) (by simp [results,Tryz.results34,go_sem,d0,d1,d2]) rfl ⟨?_,s,ao,k,cap,l,rfl,?_,HR.out.2⟩
 ·
  exact ((HW.out.1.setCell (by simp; have:=HW.out.2.2.2; omega) _).setCell (by simp; have:=HW.out.2.2.2; omega) _).setCell (by simp; have:=HW.out.2.2.2; omega) _
 ·
  refine New.mono (((HR.out.1.other ?_ _).other ?_ _).other ?_ _) ?_
  all_goals (have h1:=HW.out.2.2.1; have h2:=HW.out.2.2.2; simp; omega)
end Bm
end Go.Proofs.YtlfhcbeniimnnaaGreat

namespace Go.Proofs.YtlfhcbeniimnnaaGreat
open Go.RowKit
open V (RowL RowL.alloc RowL.lt RowL.cell RowL.fz RowL.kept RowL.block RowL.set RowL.far)
namespace Bm
open Sp (hid)
open Sy
def Light (rows:List LE) (bs:List ZE):Prop:=rows.length≤61∧(∀ r ∈ rows,r.cs.length≤60∧∀ c ∈ r.cs,c.val.lim.length≤600)∧bs.length≤61∧∀ z ∈ bs,z.lim.length≤600
def Seen (N:Nat) (cs:List CE):Prop:=∀ c ∈ cs,min 1000 c.val.lim.length≤N
def SeenR (N:Nat) (rows:List LE):Prop:=∀ r ∈ rows,r.cs.length≤60∧Seen N r.cs
def SeenB (N:Nat) (bs:List ZE):Prop:=∀ z ∈ bs,min 1000 z.lim.length≤N
theorem Seen.up {N M:Nat} {cs:List CE} (h:Seen N cs) (hm:N≤M):Seen M cs:=fun c hc => Nat.le_trans (h c hc) hm
theorem SeenR.up {N M:Nat} {rs:List LE} (h:SeenR N rs) (hm:N≤M):SeenR M rs:=fun r hr => ⟨(h r hr).1,(h r hr).2.up hm⟩
theorem SeenB.up {N M:Nat} {bs:List ZE} (h:SeenB N bs) (hm:N≤M):SeenB M bs:=fun c hc => Nat.le_trans (h c hc) hm
theorem mem_take_s {α:Type} {l:List α} {k:Nat} (hk:k < l.length) {x:α} (hx:x ∈ l.take (k + 1)):x ∈ l.take k ∨ x = l[k]:=by
 rw [List.take_add_one,List.getElem?_eq_getElem hk] at hx
 rcases List.mem_append.1 hx with h | h
 ·
  exact Or.inl h
 ·
  exact Or.inr (List.mem_singleton.1 h)
def HeavyIs (rows:List LE) (bs:List ZE) (e:Ending):Prop:=∃ b,e = .returned (.bool b)∧(b = false→Light rows bs)
theorem HeavyIs.of {rows:List LE} {bs:List ZE} {e:Ending} (b:Bool) (h:e = .returned (.bool b)) (hf:b = false→Light rows bs):HeavyIs rows bs e:=⟨b,h,hf⟩
theorem seen_light {N:Nat} {rows:List LE} {bs:List ZE} (h1:SeenR N rows) (h2:SeenB N bs) (hN:N≤600) (h3:rows.length≤61) (h4:bs.length≤61):Light rows bs :=
 ⟨h3,fun r hr => ⟨(h1 r hr).1,fun c hc => by have:=(h1 r hr).2 c hc; omega⟩,h4,fun z hz => by have:=h2 z hz; omega⟩
set_option maxRecDepth 100000 in
set_option maxHeartbeats 8000000 in
theorem heavy_any (ao bo:Option Addr) (n cap nb capb:Nat) (rows:List LE) (bs:List ZE) (w:World) (h:MxR w ao rows) (hb:ZsR w bo bs) (hl:n = rows.length) (hlb:nb = bs.length) (hn:n≤1000000000000000) (hnb:nb≤1000000000000000) (hs:∀ r ∈ rows,r.cs.length≤1000000000000000) :
  Calls Tryz.prog 10 #[.slice ao n cap,.slice bo nb capb] w fun e w' => Kept w w'∧HeavyIs rows bs e:=by
 have HL:=hid (And.intro h (And.intro hl (And.intro hs (And.intro hb hlb))))
 clear h hl hs hb hlb
 go_enter Tryz.func10,Tryz.ntmps10
 go_wp2_with fail
 --%A
 go_loopw [5,12] (fun v5 v12 wr => ∃ (i N:Nat),i≤n∧i≤61∧N≤i * 60060∧v5 = .int .i64 (N:Int)∧v12 = .int .i64 (i:Int)∧Hid (Kept w wr∧SeenR N (rows.take i))) (fun _ v12 _ => n - (intOf v12).toNat)
 case atStart => exact ⟨0,0,Nat.zero_le _,by omega,by omega,rfl,rfl,Kept.refl _,fun r hr => by simp at hr⟩
 case round =>
  obtain ⟨i,N,hil,hi6,hNb,rfl,rfl,H⟩:=hrel
  generalize wr = w0 at H ⊢
  by_cases hit:i < n
  ·
   have hii:(i:Int) < (n:Int):=by omega
   have hi0:(0:Int)≤(i:Int):=by omega
   have hiL:i < rows.length:=by have:=HL.out.2.1; omega
   obtain ⟨b,off,ra,rc,row,rfl,hre,hc,hI⟩:=mxr_at HL.out.1 hiL
   have HC:=hid hc
   have HI:=hid hI
   have HRE:=hid hre
   have hlen:row.length≤1000000000000000:=by have:=HL.out.2.2.1 _ (List.getElem_mem hiL); rw [hre] at this; exact this
   obtain ⟨rl,hrl⟩:∃ r,r = row.length:=⟨_,rfl⟩
   rw [← hrl] at HC hlen
   have HR:=hid hrl
   clear hc hI hrl hre
   have c9:=HC.out _ H.out.1
   by_cases h60:60 < i
   ·
    have h1:(60:Int) < (i:Int):=by omega
    go_wp2_with fail
    go_ret
    exact ⟨H.out.1,HeavyIs.of true rfl fun h => by cases h⟩
   ·
    have h1:¬ (60:Int) < (i:Int):=by omega
    by_cases h61:60 < rl
    ·
     have h2:(60:Int) < (rl:Int):=by omega
     go_wp2_with fail
     go_ret
     exact ⟨H.out.1,HeavyIs.of true rfl fun h => by cases h⟩
    ·
     have h2:¬ (60:Int) < (rl:Int):=by omega
     go_wp2_with fail
     --%B
     go_loopw [5,30] (fun v5 v30 wr => ∃ (k M:Nat),k≤rl∧M≤i * 60060 + k * 1001∧v5 = .int .i64 (M:Int)∧v30 = .int .i64 (k:Int)∧Hid (Kept w wr∧SeenR M (rows.take i)∧Seen M (row.take k))) (fun _ v30 _ => rl - (intOf v30).toNat)
     case atStart => exact ⟨0,N,Nat.zero_le _,Nat.le_trans hNb (Nat.le_add_right _ _),rfl,rfl,H.out.1,H.out.2,fun r hr => by simp at hr⟩
     case round =>
      clear H c9
      obtain ⟨k,M,hkl,hMb,rfl,rfl,H⟩:=hrel
      generalize wr = w1 at H ⊢
      by_cases hkt:k < rl
      ·
       have hkk:(k:Int) < (rl:Int):=by omega
       have hk0:(0:Int)≤(k:Int):=by omega
       have hkL:k < row.length:=by have:=HR.out; omega
       obtain ⟨b2,o2,y,m,zo,zc,zl,rfl,hce,hd,hok⟩:=cel_at HI.out hkL
       obtain ⟨c0,c1,c2⟩:=hd _ H.out.1
       have HK:=hid H.out.1
       have hzl:zl.length≤9223372036854775807:=hok.2
       obtain ⟨nl,hnl⟩:∃ q,q = zl.length:=⟨_,rfl⟩
       rw [← hnl] at c2 hzl
       obtain ⟨mn,hmn⟩:∃ q,q = min 1000 nl:=⟨_,rfl⟩
       have hm1:mn≤1000:=by omega
       have hmz:(mn:Int) = if (nl:Int) < 1000 then (nl:Int) else 1000:=by split <;> omega
       have HN:=hid (show SeenR (M + (1 + mn)) (rows.take i)∧Seen (M + (1 + mn)) (row.take (k + 1)) from ⟨H.out.2.1.up (by omega),fun c hc => by
        rcases mem_take_s hkL hc with h | h
        ·
         exact (H.out.2.2.up (show M≤M + (1 + mn) by omega)) c h
        ·
         rw [h,hce]; show min 1000 zl.length≤_; omega⟩)
       have kA:=HK.out.alloc (.cells #[.int .i64 y,.bool m,.slice zo nl zc] 39)
       have rA:=RowL.alloc 39 w1 [.int .i64 y,.bool m,.slice zo nl zc]
       clear hd hok hce H hnl hmn
       go_upto_region 10 with fail
       generalize w1.alloc (.cells #[.int .i64 y,.bool m,.slice zo nl zc] 39) = W at kA rA ⊢
       obtain ⟨q,hq⟩:∃ q,q = w1.heap.size:=⟨_,rfl⟩
       rw [← hq] at rA ⊢
       have HW:=hid (And.intro kA rA)
       have d2:=rA.cell 2 _
       clear kA rA hq c0 c1 c2 HK
       --%C
       go_wp2_with fail
       --%D
       go_roundw
       case rel => exact ⟨k + 1,M + (1 + mn),by omega,by omega,by rw [← hmz]; go_num,by go_num,HW.out.1,HN.out⟩
       case measure => show rl - ((k:Int) + 1).toNat < rl - (k:Int).toNat; omega
      ·
       have hkk:¬ (k:Int) < (rl:Int):=by omega
       have HE:=hid (show SeenR M (rows.take (i + 1)) from fun r hr => by
        rcases mem_take_s hiL hr with h | h
        ·
         exact H.out.2.1 r h
        ·
         rw [h,HRE.out]
         refine ⟨by show row.length≤60; have:=HR.out; omega,?_⟩
         have:=H.out.2.2
         rw [List.take_of_length_le (by have:=HR.out; omega)] at this
         exact this)
       go_wp2_with fail
       --%E
       go_roundw
       case rel => exact ⟨i + 1,M,by omega,by omega,by omega,rfl,by go_num,H.out.1,HE.out⟩
       case measure => show n - ((i:Int) + 1).toNat < n - (i:Int).toNat; omega
  ·
   have hii:¬ (i:Int) < (n:Int):=by omega
   have hni:i = n:=by omega
   have H:=hid (And.intro H.out.1 (show SeenR N rows by have:=H.out.2; rw [List.take_of_length_le (by have:=HL.out.2.1; omega)] at this; exact this))
   have hn6:n≤61:=by omega
   have hNb:N≤3663660:=by omega
   subst hni
   go_wp2_with fail
   --%F
   go_loopw [5,46] (fun v5 v46 wr => ∃ (k M:Nat),k≤nb∧k≤61∧M≤3663660 + k * 1000∧v5 = .int .i64 (M:Int)∧v46 = .int .i64 (k:Int)∧Hid (Kept w wr∧SeenR M rows∧SeenB M (bs.take k))) (fun _ v46 _ => nb - (intOf v46).toNat)
   case atStart => exact ⟨0,N,Nat.zero_le _,Nat.zero_le _,Nat.le_trans hNb (Nat.le_add_right _ _),rfl,rfl,H.out.1,H.out.2,fun r hr => by simp at hr⟩
   case round =>
    clear H
    obtain ⟨k,M,hkl,hk6,hMb,rfl,rfl,H⟩:=hrel
    generalize wr = w1 at H ⊢
    by_cases hkt:k < nb
    ·
     have hkk:(k:Int) < (nb:Int):=by omega
     have hk0:(0:Int)≤(k:Int):=by omega
     have hkL:k < bs.length:=by have:=HL.out.2.2.2.2; omega
     by_cases h60:60 < k
     ·
      have h1:(60:Int) < (k:Int):=by omega
      go_wp2_with fail
      go_ret
      exact ⟨H.out.1,HeavyIs.of true rfl fun h => by cases h⟩
     ·
      have h1:¬ (60:Int) < (k:Int):=by omega
      obtain ⟨b2,o2,m,zo,zc,zl,rfl,hce,hd,hok⟩:=zsr_at HL.out.2.2.2.1 hkL
      obtain ⟨c0,c1⟩:=hd _ H.out.1
      have hzl:zl.length≤9223372036854775807:=hok.2
      obtain ⟨nl,hnl⟩:∃ q,q = zl.length:=⟨_,rfl⟩
      rw [← hnl] at c1 hzl
      obtain ⟨mn,hmn⟩:∃ q,q = min 1000 nl:=⟨_,rfl⟩
      have hm1:mn≤1000:=by omega
      have hmz:(mn:Int) = if (nl:Int) < 1000 then (nl:Int) else 1000:=by split <;> omega
      have HN:=hid (show SeenR (M + mn) rows∧SeenB (M + mn) (bs.take (k + 1)) from ⟨H.out.2.1.up (by omega),fun c hc => by
       rcases mem_take_s hkL hc with h | h
       ·
        exact (H.out.2.2.up (show M≤M + mn by omega)) c h
       ·
        rw [h,hce]; show min 1000 zl.length≤_; omega⟩)
      clear hd hok hce hnl hmn
      go_wp2_with fail
      --%G
      go_roundw
      case rel => exact ⟨k + 1,M + mn,by omega,by omega,by omega,by rw [← hmz]; go_num,by go_num,H.out.1,HN.out⟩
      case measure => show nb - ((k:Int) + 1).toNat < nb - (k:Int).toNat; omega
    ·
     have hkk:¬ (k:Int) < (nb:Int):=by omega
     have hkn:k = nb:=by omega
     have H:=hid (And.intro H.out.1 (And.intro H.out.2.1 (show SeenB M bs by have:=H.out.2.2; rw [List.take_of_length_le (by have:=HL.out.2.2.2.2; omega)] at this; exact this)))
     have HF:=hid (show M≤600→Light rows bs from fun hM => seen_light H.out.2.1 H.out.2.2 hM (by have:=HL.out.2.1; omega) (by have:=HL.out.2.2.2.2; omega))
     have HK:=hid H.out.1
     clear H
     --%H
     by_cases g1:600 < M
     ·
      have h1:(600:Int) < (M:Int):=by omega
      go_wp2_with fail
      go_ret
      exact ⟨HK.out,HeavyIs.of true rfl fun h => by cases h⟩
     ·
      have h1:¬ (600:Int) < (M:Int):=by omega
      by_cases g2:12 < i
      ·
       have h2:(12:Int) < (i:Int):=by omega
       go_wp2_with fail
       go_ret
       exact ⟨HK.out,HeavyIs.of _ rfl fun _ => HF.out (by omega)⟩
      ·
       have h2:¬ (12:Int) < (i:Int):=by omega
       go_wp2_with fail
       go_ret
       exact ⟨HK.out,HeavyIs.of _ rfl fun _ => HF.out (by omega)⟩
end Bm
end Go.Proofs.YtlfhcbeniimnnaaGreat

namespace Go.Proofs.YtlfhcbeniimnnaaGreat
open Go.RowKit
open V (RowL RowL.alloc RowL.lt RowL.cell RowL.fz RowL.kept RowL.block RowL.set RowL.far)
namespace Bm
open Sp (hid)
open Sy
def ZA (w:World) (s:Bool) (v:Value) (c z:Int):Prop:=(c = 0∧ZI w s v z) ∨ (c = 13∧s = false∧v = .slice none 0 0)
theorem ZA.kept {w w':World} {s:Bool} {v:Value} {c z:Int} (h:ZA w s v c z) (k:Kept w w'):ZA w' s v c z:=by
 rcases h with ⟨h1,h2⟩ | h
 ·
  exact .inl ⟨h1,h2.kept k⟩
 ·
  exact .inr h
theorem ZA.of {B:Nat} {w:World} {s:Bool} {v:Value} {c z:Int} (h:Fin B w s v c z):ZA w s v c z:=by
 rcases h with ⟨h1,l,h2,h3,h4⟩ | ⟨h1,h2,h3,_⟩
 ·
  exact .inl ⟨h1,l,h2.sl,h3,h4⟩
 ·
  exact .inr ⟨h1,h2,h3⟩
abbrev ZB (w:World) (p:Nat) (s:Bool) (v:Value):Prop:=RowL 37 w p [.bool s,v]
end Bm
end Go.Proofs.YtlfhcbeniimnnaaGreat

namespace Go.Proofs.YtlfhcbeniimnnaaGreat
open Go.RowKit
open V (RowL RowL.alloc RowL.lt RowL.cell RowL.fz RowL.kept RowL.block RowL.set RowL.far)
namespace Bm
open Sp (hid)
open Sy
def ZP (p q:Nat) (w:World) (s:Bool) (v:Value) (z:Int):Prop:=∃ l,Sl w v l∧M.Right s l∧M.int s l = z∧∀ b o n c,v = .slice (some ⟨b,o,none⟩) n c→b ≠ p∧b ≠ q
theorem ZP.zi {p q:Nat} {w:World} {s:Bool} {v:Value} {z:Int} (h:ZP p q w s v z):ZI w s v z:=by
 obtain ⟨l,h1,h2,h3,_⟩:=h
 exact ⟨l,h1,h2,h3⟩
theorem ZP.kept {p q:Nat} {w w':World} {s:Bool} {v:Value} {z:Int} (h:ZP p q w s v z) (k:Kept w w'):ZP p q w' s v z:=by
 obtain ⟨l,h1,h2,h3,h4⟩:=h
 exact ⟨l,h1.kept k,h2,h3,h4⟩
theorem sl_set {w:World} {v:Value} {l:List Nat} (h:Sl w v l) {g:Addr} (u:Value) (hg:∀ b o n c,v = .slice (some ⟨b,o,none⟩) n c→b ≠ g.block):Sl (w.setCell g u) v l:=by
 obtain ⟨hb,ao,cap,rfl,hx⟩:=h
 refine ⟨hb,ao,cap,rfl,fun h0 => ?_⟩
 obtain ⟨h1,b,o,rfl,hlt,hc⟩:=hx h0
 refine ⟨h1,b,o,rfl,by simpa using hlt,fun j hj => ?_⟩
 rw [World.cell?_setCell_far _ _ _ _ (by have:=hg b o _ _ rfl; intro e; exact this (by simpa using e.symm))]
 exact hc j hj
theorem ZP.set1 {p q:Nat} {w:World} {s:Bool} {v:Value} {z:Int} (h:ZP p q w s v z) (j:Nat) (u:Value):ZP p q (w.setCell ⟨p,j,none⟩ u) s v z:=by
 obtain ⟨l,h1,h2,h3,h4⟩:=h
 exact ⟨l,sl_set h1 u (fun b o n c e => (h4 b o n c e).1),h2,h3,h4⟩
theorem ZP.set2 {p q:Nat} {w:World} {s:Bool} {v:Value} {z:Int} (h:ZP p q w s v z) (j:Nat) (u:Value):ZP p q (w.setCell ⟨q,j,none⟩ u) s v z:=by
 obtain ⟨l,h1,h2,h3,h4⟩:=h
 exact ⟨l,sl_set h1 u (fun b o n c e => (h4 b o n c e).2),h2,h3,h4⟩
theorem new_at {B:Nat} {w:World} {v:Value} {l:List Nat} (h:New B w v l):∀ b o n c,v = .slice (some ⟨b,o,none⟩) n c→B≤b∧b < w.heap.size:=by
 intro b o n c e
 obtain ⟨_,⟨rfl,_⟩ | ⟨b',N,f,rfl,hB,hN,hr,hf⟩⟩:=h
 ·
  cases e
 ·
  simp only [Value.slice.injEq,Option.some.injEq,Addr.mk.injEq] at e
  obtain ⟨⟨rfl,_⟩,_⟩:=e
  exact ⟨hB,World.rowIs.lt hr⟩
theorem ZP.of {B p q:Nat} {w:World} {s:Bool} {v:Value} {l:List Nat} {z:Int} (h:New B w v l) (hr:M.Right s l) (hz:M.int s l = z) (hp:p < B) (hq:q < B ∨ w.heap.size≤q):ZP p q w s v z :=
 ⟨l,h.sl,hr,hz,fun b o n c e => by have:=new_at h b o n c e; omega⟩
def xz (xs:List ZE) (j:Nat):Int:=match xs[j]? with | some z => M.int z.neg z.lim | none => 0
def rowZ (xs:List ZE):List CE→Int
 | [] => 0
 | c :: t => rowZ xs t + M.int c.val.neg c.val.lim * xz xs c.col.toNat
theorem rowZ_snoc (xs:List ZE) (c:CE):∀ t,rowZ xs (t ++ [c]) = rowZ xs t + M.int c.val.neg c.val.lim * xz xs c.col.toNat
 | [] => by simp [rowZ]
 | d :: t => by
  show rowZ xs (t ++ [c]) + _ = (rowZ xs t + _) + _
  rw [rowZ_snoc xs c t]
  omega
theorem rowZ_take {xs:List ZE} {L:List CE} {k:Nat} (hk:k < L.length):rowZ xs (L.take (k + 1)) = rowZ xs (L.take k) + M.int L[k].val.neg L[k].val.lim * xz xs L[k].col.toNat:=by
 rw [List.take_add_one,List.getElem?_eq_getElem hk]
 exact rowZ_snoc xs _ _
def RowIs (w:World) (e:Ending) (z:Int):Prop:=∃ s ao k cap ok,e = .returned (.tuple #[.agg #[.bool s,.slice ao k cap],.bool ok])∧(ok = true→ZI w s (.slice ao k cap) z)
theorem add_zf (m n:Bool) (va vb:Value) (x y:Int) (w:World) (ha:ZI w m va x) (hb:ZI w n vb y) :
  Calls Tryz.prog 55 #[.agg #[.bool m,va],.agg #[.bool n,vb]] w fun e w' => Kept w w'∧∃ s ao k cap c,e = .returned (.tuple #[.agg #[.bool s,.slice ao k cap],.int .i64 c])∧Fin w.heap.size w' s (.slice ao k cap) c (x + y):=by
 obtain ⟨a,h1,h2,rfl⟩:=ha
 obtain ⟨b,g1,g2,rfl⟩:=hb
 refine (add_any m n va vb a b w h1 g1 (R.of_right h2) (R.of_right g2)).mono ?_
 rintro e w' ⟨hk,s,ao,k,cap,c,rfl,hF⟩
 exact ⟨hk,s,ao,k,cap,c,rfl,hF⟩
theorem mul_zl (m n:Bool) (va vb:Value) (x y:Int) (w:World) (ha:ZI w m va x) (hb:ZI w n vb y) :
  Calls Tryz.prog 23 #[.agg #[.bool m,va],.agg #[.bool n,vb]] w fun e w' => Kept w w'∧∃ s ao k cap c,e = .returned (.tuple #[.agg #[.bool s,.slice ao k cap],.int .i64 c])∧ZA w' s (.slice ao k cap) c (x * y)∧∀ b o n c,Value.slice ao k cap = .slice (some ⟨b,o,none⟩) n c→w.heap.size≤b∧b < w'.heap.size:=by
 obtain ⟨a,h1,h2,rfl⟩:=ha
 obtain ⟨b,g1,g2,rfl⟩:=hb
 refine (mul_any m n va vb a b w h1 g1 (R.of_right h2) (R.of_right g2)).mono ?_
 rintro e w' ⟨hk,s,ao,k,cap,c,rfl,hF⟩
 refine ⟨hk,s,ao,k,cap,c,rfl,ZA.of hF,?_⟩
 rcases hF with ⟨_,l,h2,_⟩ | ⟨_,_,h3,_⟩
 ·
  exact new_at h2
 ·
  intro b o n c e
  rw [h3] at e
  cases e
theorem za_set {w:World} {s:Bool} {v:Value} {c z:Int} {g:Nat} (h:ZA w s v c z) (hg:∀ b o n c,v = .slice (some ⟨b,o,none⟩) n c→b ≠ g) (x y:Value):ZA ((w.setCell ⟨g,0,none⟩ x).setCell ⟨g,1,none⟩ y) s v c z:=by
 rcases h with ⟨h1,l,h2,h3⟩ | h
 ·
  exact .inl ⟨h1,l,sl_set (sl_set h2 x hg) y hg,h3⟩
 ·
  exact .inr h
set_option maxRecDepth 100000 in
set_option maxHeartbeats 8000000 in
theorem row14_any (ao xo:Option Addr) (rl cap nx capx:Nat) (L:List CE) (xs:List ZE) (w:World) (h:CsR w ao L) (hx:ZsR w xo xs) (hl:rl = L.length) (hlx:nx = xs.length) (hrl:rl≤1000000)
  (hL:∀ c ∈ L,0≤c.col∧c.col < (nx:Int)∧c.val.right = true) (hX:∀ z ∈ xs,z.right = true) :
  Calls Tryz.prog 22 #[.slice ao rl cap,.slice xo nx capx] w fun e w' => Kept w w'∧RowIs w' e (rowZ xs L):=by
 have HL:=hid (And.intro h (And.intro hx (And.intro hl (And.intro hlx (And.intro hL hX)))))
 clear h hx hl hlx hL hX
 have kA:=(Kept.refl w).alloc (.cells #[.bool false,.slice none 0 0] 37)
 have rA:=RowL.alloc 37 w [.bool false,.slice none 0 0]
 have sA:=alloc_sz w (.cells #[.bool false,.slice none 0 0] 37)
 go_enter Tryz.func22,Tryz.ntmps22
 go_upto_region 1 with fail
 generalize w.alloc (.cells #[.bool false,.slice none 0 0] 37) = W at kA rA sA ⊢
 obtain ⟨p,hp⟩:∃ q,q = w.heap.size:=⟨_,rfl⟩
 rw [← hp] at rA ⊢
 have HW:=hid (And.intro kA (And.intro rA (And.intro sA hp)))
 clear kA rA sA hp
 go_wp2_with fail
 refine (of_any 0 W (by omega) (by omega)).mono ?_
 rintro e w1 ⟨hk,s,o1,k1,c1,l,rfl,hn,hr,hi⟩
 have kB:=(Kept.refl w1).alloc (.cells #[.bool s,.slice o1 k1 c1] 37)
 have rB:=RowL.alloc 37 w1 [.bool s,.slice o1 k1 c1]
 have HB:=hid (show ZP p w1.heap.size w1 s (.slice o1 k1 c1) 0 from ZP.of hn hr hi (by have:=HW.out.2.2; omega) (.inr (Nat.le_refl _)))
 have HW:=hid (And.intro (HW.out.1.trans hk) (And.intro (HW.out.2.1.kept hk) (And.intro (show p < w1.heap.size from by have:=hk.size; have:=HW.out.2.2; omega) HW.out.2.2.2)))
 clear hk hn hr hi
 --%A
 go_upto_region 2 with fail
 generalize w1.alloc (.cells #[.bool s,.slice o1 k1 c1] 37) = W1 at kB rB ⊢
 obtain ⟨q,hq⟩:∃ q,q = w1.heap.size:=⟨_,rfl⟩
 rw [← hq] at rB HB ⊢
 have HB:=hid (show (Kept w W1∧p ≠ q∧w.heap.size≤q∧p = w.heap.size)∧RowL 37 W1 p [.bool false,.slice none 0 0]∧RowL 37 W1 q [.bool s,.slice o1 k1 c1]∧ZP p q W1 s (.slice o1 k1 c1) (rowZ xs (L.take 0)) from
  ⟨⟨HW.out.1.trans kB,by have:=HW.out.2.2.1; omega,by have:=HW.out.2.2; omega,HW.out.2.2.2⟩,HW.out.2.1.kept kB,rB,HB.out.kept kB⟩)
 clear HW kB rB hq
 --%B
 go_wp2_with fail
 have HPQ:=hid HB.out.1.2
 go_loopw [16] (fun v16 wr => ∃ (k:Nat) (s:Bool) (o1:Option Addr) (k1 c1:Nat),k≤rl∧v16 = .int .i64 (k:Int)∧Hid (Kept w wr∧RowL 37 wr p [.bool false,.slice none 0 0]∧RowL 37 wr q [.bool s,.slice o1 k1 c1]∧ZP p q wr s (.slice o1 k1 c1) (rowZ xs (L.take k)))) (fun v16 _ => rl - (intOf v16).toNat)
 case atStart => exact ⟨0,s,o1,k1,c1,Nat.zero_le _,rfl,HB.out.1.1,HB.out.2⟩
 case round =>
  clear HB
  obtain ⟨k,s,o1,k1,c1,hkl,rfl,H⟩:=hrel
  generalize wr = w2 at H ⊢
  by_cases hkt:k < rl
  ·
   have hkk:(k:Int) < (rl:Int):=by omega
   have hk0:(0:Int)≤(k:Int):=by omega
   have hkL:k < L.length:=by have:=HL.out.2.2.1; omega
   obtain ⟨b,off,y,m,zo,zc,zl,rfl,hce,hc,hok⟩:=cel_at HL.out.1 hkL
   obtain ⟨hy0,hyn,hri⟩:=HL.out.2.2.2.2.1 _ (List.getElem_mem hkL)
   have HS:=hid (rowZ_take (xs:=xs) hkL)
   rw [hce] at hy0 hyn hri HS
   have hy0:0≤y:=hy0
   have hyn:y < (nx:Int):=hyn
   obtain ⟨j,rfl⟩:∃ j:Nat,y = (j:Int):=⟨y.toNat,by omega⟩
   have hjx:j < xs.length:=by have:=HL.out.2.2.2.1; omega
   obtain ⟨bx,ox,m2,zo2,zc2,zl2,rfl,hxe,hcx,hok2⟩:=zsr_at HL.out.2.1 hjx
   have hri2:=HL.out.2.2.2.2.2 _ (List.getElem_mem hjx)
   rw [hxe] at hri2
   have HZ1:=hid (show ZI w m (.slice zo zl.length zc) (M.int m zl) from ZI.of hok hri)
   have HZ2:=hid (show ZI w m2 (.slice zo2 zl2.length zc2) (M.int m2 zl2) from ZI.of hok2 hri2)
   have HS:=hid (show rowZ xs (L.take (k + 1)) = rowZ xs (L.take k) + M.int m zl * M.int m2 zl2 by
    rw [HS.out]
    show _ + M.int m zl * xz xs ((j:Int)).toNat = _
    have:xz xs ((j:Int)).toNat = M.int m2 zl2:=by
     show xz xs j = _
     unfold xz
     rw [List.getElem?_eq_getElem hjx,hxe]
    rw [this])
   obtain ⟨n1,hn1⟩:∃ q,q = zl.length:=⟨_,rfl⟩
   obtain ⟨n2,hn2⟩:∃ q,q = zl2.length:=⟨_,rfl⟩
   rw [← hn1] at HZ1 hc
   rw [← hn2] at HZ2 hcx
   have HC:=hid hcx
   obtain ⟨c0,c1',c2⟩:=hc _ H.out.1
   have kC:=H.out.1.alloc (.cells #[.int .i64 (j:Int),.bool m,.slice zo n1 zc] 39)
   have kC':=(Kept.refl w2).alloc (.cells #[.int .i64 (j:Int),.bool m,.slice zo n1 zc] 39)
   have rC:=RowL.alloc 39 w2 [.int .i64 (j:Int),.bool m,.slice zo n1 zc]
   clear hc hcx hok hok2 hri hri2 hce hxe hn1 hn2
   generalize M.int m zl = x1 at HZ1 HS
   generalize M.int m2 zl2 = x2 at HZ2 HS
   --%C
   go_upto_region 5 with fail
   generalize w2.alloc (.cells #[.int .i64 (j:Int),.bool m,.slice zo n1 zc] 39) = W2 at kC kC' rC ⊢
   obtain ⟨g,hg⟩:∃ q,q = w2.heap.size:=⟨_,rfl⟩
   rw [← hg] at rC ⊢
   have HV:=hid (show ∀ V,Kept W2 V→(RowL 39 V g [.int .i64 (j:Int),.bool m,.slice zo n1 zc]∧RowL 37 V q [.bool s,.slice o1 k1 c1]∧V.cell? ⟨bx,ox + j * 2,none⟩ = some (.bool m2)∧V.cell? ⟨bx,ox + j * 2 + 1,none⟩ = some (.slice zo2 n2 zc2))∧Kept w V∧RowL 37 V p [.bool false,.slice none 0 0]∧ZP p q V s (.slice o1 k1 c1) (rowZ xs (L.take k)) from
    fun V K => ⟨⟨rC.kept K,H.out.2.2.1.kept (kC'.trans K),(HC.out _ (kC.trans K)).1,(HC.out _ (kC.trans K)).2⟩,kC.trans K,H.out.2.1.kept (kC'.trans K),H.out.2.2.2.kept (kC'.trans K)⟩)
   clear kC kC' rC hg H c0 c1' c2 HC
   have c0:=(HV.out _ (Kept.refl W2)).1.1.cell 0 _
   have c1':=(HV.out _ (Kept.refl W2)).1.1.cell 1 _
   have c2:=(HV.out _ (Kept.refl W2)).1.1.cell 2 _
   have c3:=(HV.out _ (Kept.refl W2)).1.2.2.1
   have c4:=(HV.out _ (Kept.refl W2)).1.2.2.2
   have hj0:(0:Int)≤(j:Int):=by omega
   --%D
   go_cut [9,10] (fun v9 v10 wc => ∃ (g9:Nat) (y1:Bool) (y2:Option Addr) (y3 y4:Nat) (y5:Int),v9 = .pointer (some ⟨g9,0,none⟩)∧v10 = .int .i64 y5∧Hid (Kept W2 wc∧RowL 37 wc g9 [.bool y1,.slice y2 y3 y4]∧ZA wc y1 (.slice y2 y3 y4) y5 (x1 * x2)))
   case first =>
    have KT:Kept W2 W2.drew:=(Kept.refl _).drew
    have sS:=hid (fun (V:World) (K:Kept W2 V) => And.intro ((HV.out _ K).1.1.cell 0 _ rfl) (And.intro ((HV.out _ K).1.1.cell 1 _ rfl) (And.intro ((HV.out _ K).1.1.cell 2 _ rfl) (And.intro (HV.out _ K).1.2.2.1 (HV.out _ K).1.2.2.2))))
    refine wp_region_held_drew (S:=fun w' => w'.cell? ⟨g,0,none⟩ = some (.int .i64 (j:Int))∧w'.cell? ⟨g,1,none⟩ = some (.bool m)∧w'.cell? ⟨g,2,none⟩ = some (.slice zo n1 zc)∧w'.cell? ⟨bx,ox + j * 2,none⟩ = some (.bool m2)∧w'.cell? ⟨bx,ox + j * 2 + 1,none⟩ = some (.slice zo2 n2 zc2)) (by kernel_rfl) (sS.out _ KT) (fun hHeld => ?_)
    generalize W2.drew = Wd at KT hHeld ⊢
    clear c0 c1' c2 c3 c4
    refine wk 0 hHeld ?_
    refine wk 1 hHeld ?_
    refine wk 2 hHeld ?_
    refine wk 3 hHeld ?_
    refine wk 4 hHeld ?_
    refine wk 5 hHeld ?_
    refine wk 6 hHeld ?_
    refine wpAnyH_ready (rs:=[7,11]) (by kernel_rfl) (by simp) ?_
    refine AllReadyH.cons rfl (fun K hK => ?_) ?_
    ·
     go_simp
     refine (mul_zl m m2 _ _ x1 x2 Wd (HZ1.out.kept (HV.out _ KT).2.1) (HZ2.out.kept (HV.out _ KT).2.1)).mono ?_
     rintro e u1 ⟨hu1,y1,y2,y3,y4,y5,rfl,hA1,hB1⟩
     have HA1:=hid (And.intro hA1 hB1)
     clear hA1 hB1
     refine hK.out _ _ (sS.out _ (KT.trans hu1)) (fun hHeld => ?_)
     clear hK K
     have KT:=KT.trans hu1
     refine wk 8 hHeld ?_
     refine wk 9 hHeld ?_
     refine wk 10 hHeld ?_
     refine wpAnyH_ready (rs:=[11]) (by kernel_rfl) (by simp) ?_
     refine AllReadyH.cons rfl (fun K hK => ?_) AllReadyH.nil
     go_simp
     refine hK.out _ _ (sS.out _ (KT.alloc _)) (fun hHeld => ?_)
     clear hK K
     have z:=RowL.alloc 37 u1 [.bool false,.slice none 0 0]
     have hg:W2.heap.size≤u1.heap.size:=KT.size
     have HA1:=hid (And.intro (HA1.out.1.kept ((Kept.refl u1).alloc (.cells #[.bool false,.slice none 0 0] 37))) (show ∀ b o n c,Value.slice y2 y3 y4 = .slice (some ⟨b,o,none⟩) n c→b ≠ u1.heap.size from fun b o n c e => Nat.ne_of_lt (HA1.out.2 b o n c e).2))
     have KT:=KT.alloc (.cells #[.bool false,.slice none 0 0] 37)
     obtain ⟨g9,hg9⟩:∃ p,p = u1.heap.size:=⟨_,rfl⟩
     rw [← hg9] at z hg HA1 ⊢
     generalize u1.alloc (.cells #[.bool false,.slice none 0 0] 37) = Wa at z KT hHeld HA1 ⊢
     clear hg9
     have c90:=z.cell 0 _
     have c91:=z.cell 1 _
     have g90:=z.fz 0
     have g91:=z.fz 1
     refine wpAnyH_ready (rs:=[12]) (by kernel_rfl) (by simp) ?_
     refine AllReadyH.cons rfl (fun K hK => ?_) AllReadyH.nil
     go_simp
     refine hK.out _ _ (sS.out _ ((KT.setCell hg _).setCell hg _)) (fun hHeld => ?_)
     clear hK K
     have z:=(z.set 0 (.bool y1)).set 1 (.slice y2 y3 y4)
     have HA1:=hid (za_set HA1.out.1 HA1.out.2 (.bool y1) (.slice y2 y3 y4))
     have KT:=(KT.setCell (p:=⟨g9,0,none⟩) hg (.bool y1)).setCell (p:=⟨g9,1,none⟩) hg (.slice y2 y3 y4)
     generalize ((Wa.setCell ⟨g9,0,none⟩ (.bool y1)).setCell ⟨g9,1,none⟩ (.slice y2 y3 y4)) = Ws at z HA1 KT hHeld ⊢
     clear c90 c91 g90 g91
     refine wk 13 hHeld ?_
     refine wpAnyH_done (by kernel_rfl) ?_ _
     go_wp2_with fail
     go_meet
     case rel => exact ⟨g9,y1,y2,y3,y4,y5,rfl,rfl,KT,z,HA1.out⟩
    refine AllReadyH.cons rfl (fun K hK => ?_) AllReadyH.nil
    go_simp
    refine hK.out _ _ (sS.out _ (KT.alloc _)) (fun hHeld => ?_)
    clear hK K
    have z:=RowL.alloc 37 Wd [.bool false,.slice none 0 0]
    have hg:W2.heap.size≤Wd.heap.size:=KT.size
    have KT:=KT.alloc (.cells #[.bool false,.slice none 0 0] 37)
    obtain ⟨g9,hg9⟩:∃ p,p = Wd.heap.size:=⟨_,rfl⟩
    rw [← hg9] at z hg ⊢
    generalize Wd.alloc (.cells #[.bool false,.slice none 0 0] 37) = Wa at z KT hHeld ⊢
    clear hg9
    refine wpAnyH_ready (rs:=[7]) (by kernel_rfl) (by simp) ?_
    refine AllReadyH.cons rfl (fun K hK => ?_) AllReadyH.nil
    go_simp
    refine (mul_zl m m2 _ _ x1 x2 Wa (HZ1.out.kept (HV.out _ KT).2.1) (HZ2.out.kept (HV.out _ KT).2.1)).mono ?_
    rintro e u1 ⟨hu1,y1,y2,y3,y4,y5,rfl,hA1,hB1⟩
    have HA1:=hid (And.intro hA1 hB1)
    clear hA1 hB1
    refine hK.out _ _ (sS.out _ (KT.trans hu1)) (fun hHeld => ?_)
    clear hK K
    have HA1:=hid (And.intro (show ZA u1 y1 (.slice y2 y3 y4) y5 (x1 * x2) from HA1.out.1) (show ∀ b o n c,Value.slice y2 y3 y4 = .slice (some ⟨b,o,none⟩) n c→b ≠ g9 from fun b o n c e => by have:=HA1.out.2 b o n c e; have:=z.lt; omega))
    have KT:=KT.trans hu1
    have z:=z.kept hu1
    refine wk 8 hHeld ?_
    refine wk 9 hHeld ?_
    refine wk 10 hHeld ?_
    have c90:=z.cell 0 _
    have c91:=z.cell 1 _
    have g90:=z.fz 0
    have g91:=z.fz 1
    refine wpAnyH_ready (rs:=[12]) (by kernel_rfl) (by simp) ?_
    refine AllReadyH.cons rfl (fun K hK => ?_) AllReadyH.nil
    go_simp
    refine hK.out _ _ (sS.out _ ((KT.setCell hg _).setCell hg _)) (fun hHeld => ?_)
    clear hK K
    have z:=(z.set 0 (.bool y1)).set 1 (.slice y2 y3 y4)
    have HA1:=hid (za_set HA1.out.1 HA1.out.2 (.bool y1) (.slice y2 y3 y4))
    have KT:=(KT.setCell (p:=⟨g9,0,none⟩) hg (.bool y1)).setCell (p:=⟨g9,1,none⟩) hg (.slice y2 y3 y4)
    generalize ((u1.setCell ⟨g9,0,none⟩ (.bool y1)).setCell ⟨g9,1,none⟩ (.slice y2 y3 y4)) = Ws at z HA1 KT hHeld ⊢
    clear c90 c91 g90 g91
    refine wk 13 hHeld ?_
    refine wpAnyH_done (by kernel_rfl) ?_ _
    go_wp2_with fail
    go_meet
    case rel => exact ⟨g9,y1,y2,y3,y4,y5,rfl,rfl,KT,z,HA1.out⟩
   --%E
   case rest =>
    obtain ⟨g9,y1,y2,y3,y4,y5,rfl,rfl,HC⟩:=hcut
    obtain ⟨z9,hz9,hz9'⟩:∃ z,ZI wc y1 (.slice y2 y3 y4) z∧(y5 = 0→z = x1 * x2):=by
     rcases HC.out.2.2 with ⟨h1,h2⟩ | ⟨h1,rfl,h3⟩
     ·
      exact ⟨_,h2,fun _ => rfl⟩
     ·
      rw [h3]
      exact ⟨0,⟨[],Sl.nil _ _ _,⟨fun _ h => by simp at h,.inl rfl,by simp,fun _ => rfl⟩,rfl⟩,fun h => by omega⟩
    obtain ⟨⟨_,v2,_,_⟩,v5,v6,v7⟩:=HV.out _ HC.out.1
    have HG:=hid (And.intro v5 (And.intro v6 (And.intro v2 (And.intro v7 (And.intro hz9 hz9')))))
    have c0:=v2.cell 0 _
    have c1':=v2.cell 1 _
    have c2:=HC.out.2.1.cell 0 _
    have c3:=HC.out.2.1.cell 1 _
    clear HV v2 v5 v6 v7 hz9 hz9' HC
    generalize wc = w3 at HG c0 c1' c2 c3 ⊢
    go_wp2_with fail
    refine (add_zf s y1 _ _ _ z9 w3 HG.out.2.2.2.1.zi HG.out.2.2.2.2.1).mono ?_
    rintro e w4 ⟨hk4,t1,t2,t3,t4,t5,rfl,hF⟩
    have HF:=hid (show (t5 = 0→y5 = 0→ZP p q w4 t1 (.slice t2 t3 t4) (rowZ xs (L.take (k + 1)))) from fun h1 h2 => by
     rcases hF with ⟨_,l,g1,g2,g3⟩ | ⟨g1,_⟩
     ·
      have hp:=HG.out.2.1.lt
      have hq:=HG.out.2.2.1.lt
      exact ZP.of g1 g2 (by rw [g3,HS.out,HG.out.2.2.2.2.2 h2]) hp (.inl hq)
     ·
      omega)
    have HG4:=hid (And.intro (HG.out.1.trans hk4) (And.intro (HG.out.2.1.kept hk4) (And.intro (HG.out.2.2.1.kept hk4) (HG.out.2.2.2.1.kept hk4))))
    clear c0 c1' c2 c3 hk4 hF HG
    have kE:=(Kept.refl w4).alloc (.cells #[.bool t1,.slice t2 t3 t4] 37)
    have rE:=RowL.alloc 37 w4 [.bool t1,.slice t2 t3 t4]
    --%F
    go_upto_region 7 with fail
    generalize w4.alloc (.cells #[.bool t1,.slice t2 t3 t4] 37) = w5 at kE rE ⊢
    obtain ⟨g8,hg8⟩:∃ q,q = w4.heap.size:=⟨_,rfl⟩
    rw [← hg8] at rE ⊢
    have hqg:¬ (q = g8):=by have:=HG4.out.2.2.1.lt; omega
    have HG5:=hid (And.intro (HG4.out.1.trans kE) (And.intro (HG4.out.2.1.kept kE) (And.intro (HG4.out.2.2.1.kept kE) (HG4.out.2.2.2.kept kE))))
    clear HG4
    have HSP:=hid (show ∀ x y,Kept w ((w5.setCell ⟨p,0,none⟩ x).setCell ⟨p,1,none⟩ y) from fun x y => (HG5.out.1.setCell (p:=⟨p,0,none⟩) (Nat.le_of_eq HPQ.out.2.2.symm) x).setCell (p:=⟨p,1,none⟩) (Nat.le_of_eq HPQ.out.2.2.symm) y)
    have HSQ:=hid (show ∀ x y,Kept w ((w5.setCell ⟨q,0,none⟩ x).setCell ⟨q,1,none⟩ y) from fun x y => (HG5.out.1.setCell (p:=⟨q,0,none⟩) HPQ.out.2.1 x).setCell (p:=⟨q,1,none⟩) HPQ.out.2.1 y)
    have HF:=hid (show (t5 = 0→y5 = 0→ZP p q w5 t1 (.slice t2 t3 t4) (rowZ xs (L.take (k + 1)))) from fun h1 h2 => (HF.out h1 h2).kept kE)
    have c0:=HG5.out.2.2.1.cell 0 _
    have c1':=HG5.out.2.2.1.cell 1 _
    have c2:=rE.cell 0 _
    have c3:=rE.cell 1 _
    have c4:=HG5.out.2.1.cell 0 _
    have c5:=HG5.out.2.1.cell 1 _
    have f0:=HG5.out.2.2.1.fz 0
    have f1:=HG5.out.2.2.1.fz 1
    have f2:=HG5.out.2.1.fz 0
    have f3:=HG5.out.2.1.fz 1
    clear kE rE hg8
    --%G
    by_cases hy5:y5 = 0
    ·
     by_cases ht5:t5 = 0
     ·
      subst hy5 ht5
      have HF:=hid (HF.out rfl rfl)
      go_wp2_with fail
      go_roundw
      case rel => exact ⟨k + 1,t1,t2,t3,t4,by omega,by go_num,HSQ.out _ _,(HG5.out.2.1.far HPQ.out.1 _ _).far HPQ.out.1 _ _,(HG5.out.2.2.1.set 0 _).set 1 _,(HF.out.set2 0 _).set2 1 _⟩
      case measure => show rl - ((k:Int) + 1).toNat < rl - (k:Int).toNat; omega
     ·
      subst hy5
      have ht5':(t5 == 0) = false:=by simp; omega
      go_wp2_with fail
      --%H
      refine bodyPost_ret (v:=.tuple #[.agg #[.bool s,.slice o1 k1 c1],.bool false]) (by simp [results,Tryz.results22,go_sem,c4,c5]) rfl ⟨?_,s,o1,k1,c1,false,rfl,fun h => by cases h⟩
      exact HSP.out _ _
    ·
     have hy5':(y5 == 0) = false:=by simp; omega
     go_wp2_with fail
     --%I
     refine bodyPost_ret (v:=.tuple #[.agg #[.bool s,.slice o1 k1 c1],.bool false]) (by simp [results,Tryz.results22,go_sem,c4,c5]) rfl ⟨?_,s,o1,k1,c1,false,rfl,fun h => by cases h⟩
     exact HSP.out _ _
  ·
   have hkk:¬ (k:Int) < (rl:Int):=by omega
   have HE:=hid (show ZP p q w2 s (.slice o1 k1 c1) (rowZ xs L) by have:=H.out.2.2.2; rw [List.take_of_length_le (by have:=HL.out.2.2.1; omega)] at this; exact this)
   have c0:=H.out.2.2.1.cell 0 _
   have c1':=H.out.2.2.1.cell 1 _
   have c4:=H.out.2.1.cell 0 _
   have c5:=H.out.2.1.cell 1 _
   have f2:=H.out.2.1.fz 0
   have f3:=H.out.2.1.fz 1
   have HSP:=hid (show ∀ x y,Kept w ((w2.setCell ⟨p,0,none⟩ x).setCell ⟨p,1,none⟩ y) from fun x y => (H.out.1.setCell (p:=⟨p,0,none⟩) (Nat.le_of_eq HPQ.out.2.2.symm) x).setCell (p:=⟨p,1,none⟩) (Nat.le_of_eq HPQ.out.2.2.symm) y)
   go_wp2_with fail
   --%J
   refine bodyPost_ret (v:=.tuple #[.agg #[.bool s,.slice o1 k1 c1],.bool true]) (by simp [results,Tryz.results22,go_sem,c4,c5]) rfl ⟨?_,s,o1,k1,c1,true,rfl,fun _ => ((HE.out.set1 0 _).set1 1 _).zi⟩
   exact HSP.out _ _
end Bm
end Go.Proofs.YtlfhcbeniimnnaaGreat

/- Order. (mk_mzq.py) bareiss's odd. Det. bareiss.rightRow, right, New. (mk_mzk.py) The sign of an order; Det's number is the determinant. What New tells hangs on the numbers within the matrix alone; two small matrices. A right row's sum; what Solve tells solves each row. -/
import Derived.Test.YtlfhcbeniimnnaaGreatGat
import Derived.Test.YtlfhcbeniimnnaaGreatGae
import Derived.Test.YtlfhcbeniimnnaaGreatGaa
import Derived.Test.YtlfhcbeniimnnaaGreatMzg
import Derived.Test.YtlfhcbeniimnnaaGreatGal
namespace Go.Proofs.YtlfhcbeniimnnaaGreat
open Go.RowKit
open V (RowL RowL.alloc RowL.lt RowL.cell RowL.fz RowL.kept)
open Sp (hid info_i64 und_ints)
open Ba (stg lastP pivs Fits)
open X (zk zr zl zd region_z anyZ_ready AllZ AllZ.cons AllZ.nil)
namespace Bp
theorem ite_want {c:Bool} {A B:Prop} (hc:c = true) (h:A):if c = true then A else B:=by rw [if_pos hc]; exact h
structure OrS (w W:World) (va vb:Value) (ka kb:Nat) (xa xb:List Value) (p7:Nat) (cs:List Value):Prop where
 kept:Kept w W
 oa:W.ownsRow w.heap.size 3 1 va ka xa
 ob:W.ownsRow w.heap.size 3 1 vb kb xb
 ap:∀ g,va.ownBlock = some g→vb.ownBlock ≠ some g
 box:RowL 100 W p7 cs
structure TmS (W:World) (va vb:Value) (t:Nat) (u:Value):Prop where
 row:RowL 3 W t [u]
 na:va.ownBlock ≠ some t
 nb:vb.ownBlock ≠ some t
section
variable {w W W4:World} {va vb u x:Value} {ka kb p7 g4 cap4 t:Nat} {xa xb cs:List Value}
theorem OrS.swap (h:OrS w W va vb ka kb xa xb p7 cs):OrS w W vb va kb ka xb xa p7 cs:=⟨h.kept,h.ob,h.oa,fun g h1 h2 => h.ap g h2 h1,h.box⟩
theorem OrS.alloc (h:OrS w W va vb ka kb xa xb p7 cs) (o:Obj):OrS w (W.alloc o) va vb ka kb xa xb p7 cs:=⟨h.kept.alloc o,World.ownsRow.alloc h.oa o,World.ownsRow.alloc h.ob o,h.ap,h.box.kept ((Kept.refl W).alloc o)⟩
theorem OrS.drew (h:OrS w W va vb ka kb xa xb p7 cs):OrS w W.drew va vb ka kb xa xb p7 cs:=⟨h.kept.drew,World.ownsRow.drew h.oa,World.ownsRow.drew h.ob,h.ap,h.box.kept (Kept.refl W).drew⟩
theorem OrS.tmp (h:OrS w W va vb ka kb xa xb p7 cs) (u:Value):TmS (W.alloc (.cells #[u] 3)) va vb W.heap.size u :=
 ⟨RowL.alloc 3 W [u],fun e => Nat.lt_irrefl _ (World.ownsRow.lt h.oa _ e).2,fun e => Nat.lt_irrefl _ (World.ownsRow.lt h.ob _ e).2⟩
theorem TmS.alloc (h:TmS W va vb t u) (o:Obj):TmS (W.alloc o) va vb t u:=⟨h.row.kept ((Kept.refl W).alloc o),h.na,h.nb⟩
theorem TmS.swap (h:TmS W va vb t u):TmS W vb va t u:=⟨h.row,h.nb,h.na⟩
theorem TmS.news (h:TmS W va vb t u):∀ j y,[u][j]? = some y→W.cell? ((⟨t,0,none⟩:Addr).add j) = some y:=by
 intro j y hy
 match j,hy with
 | 0,hy => cases hy; exact h.row.cell 0 _
theorem OrS.appA (h:OrS w W va vb ka kb xa xb p7 cs) (own:W4.ownsRow w.heap.size 3 1 (.slice (some ⟨g4,0,none⟩) (ka + 1) cap4) (ka + 1) (xa ++ [u])) (hg:W.grownBy W4 va.ownBlock) (hh:va.ownBlock = some g4 ∨ g4 = W.heap.size) :
  OrS w W4 (.slice (some ⟨g4,0,none⟩) (ka + 1) cap4) vb (ka + 1) kb (xa ++ [u]) xb p7 cs:=by
 have kx:KX (fun q => va.ownBlock = some q) W W4:=⟨hg.os,hg.tape,hg.output,hg.size,fun q hq hne => hg.block q hq (fun e => hne e.symm)⟩
 have hfr:Free 100 (fun q => va.ownBlock = some q) W:=by
  intro q hq cur fr e
  rcases h.oa.2 with ⟨rfl,_⟩ | ⟨g,_,_,rfl,_,hg2,_⟩
  ·
   cases hq
  ·
   cases hq
   rw [hg2] at e
   injection e with e
   injection e with _ e2
   exact absurd e2 (by decide)
 refine ⟨KX.kept h.kept kx (fun q hq => (World.ownsRow.lt h.oa q hq).1),own,World.ownsRow.kept h.ob hg ?_,fun g e e2 => ?_,RowL_kx h.box kx hfr⟩
 ·
  cases e:vb.ownBlock with
  | none => exact .inl rfl
  | some g => exact .inr fun e2 => h.ap g e2.symm e
 ·
  have e3:g4 = g:=by injection e
  subst e3
  rcases hh with hh | hh
  ·
   exact h.ap _ hh e2
  ·
   have:=(World.ownsRow.lt h.ob _ e2).2
   omega
theorem OrS.appB (h:OrS w W va vb ka kb xa xb p7 cs) (own:W4.ownsRow w.heap.size 3 1 (.slice (some ⟨g4,0,none⟩) (kb + 1) cap4) (kb + 1) (xb ++ [u])) (hg:W.grownBy W4 vb.ownBlock) (hh:vb.ownBlock = some g4 ∨ g4 = W.heap.size) :
  OrS w W4 va (.slice (some ⟨g4,0,none⟩) (kb + 1) cap4) ka (kb + 1) xa (xb ++ [u]) p7 cs:=(h.swap.appA own hg hh).swap
theorem TmS.appA {n cap:Nat} (h:TmS W va vb t x) (hg:W.grownBy W4 va.ownBlock) (hh:va.ownBlock = some g4 ∨ g4 = W.heap.size):TmS W4 (.slice (some ⟨g4,0,none⟩) n cap) vb t x:=by
 have hlt:=h.row.lt
 refine ⟨World.rowIs.of_block h.row (hg.block t hlt fun e => h.na e.symm),fun e => ?_,h.nb⟩
 have e3:g4 = t:=by injection e
 subst e3
 rcases hh with hh | hh
 ·
  exact h.na hh
 ·
  omega
end
def rowsV (ps:List (Nat × Nat)) (k:Nat):List Value:=(ps.take k).map fun p => .int .i64 (p.1:Int)
def colsV (ps:List (Nat × Nat)) (k:Nat):List Value:=(ps.take k).map fun p => .int .i64 (p.2:Int)
set_option maxRecDepth 100000 in
set_option maxHeartbeats 40000000 in
theorem order_any (B fb n limbs:Nat) (sa:Option Addr) (sk sc:Nat) (Ss:List StC) (M:Nat→Nat→Int) (ps:List (Nat × Nat)) (w:World) (h:FacR B w fb n limbs sa sk sc Ss M ps) (hn:sk≤48) :
  Calls Tryz.prog 14 #[.pointer (some ⟨fb,0,none⟩)] w fun e w' => Kept w w'∧∃ va vb,e = .returned (.tuple #[va,vb])∧w'.ownsRow w.heap.size 3 1 va sk (rowsV ps sk)∧w'.ownsRow w.heap.size 3 1 vb sk (colsV ps sk)∧∀ g,va.ownBlock = some g→vb.ownBlock ≠ some g:=by
 have hsk:=h.len
 have hsl:=h.sts.len
 have HH:=hid (And.intro h (And.intro hsk hsl))
 have d1:=h.box.cell 1 _
 clear h hsk hsl
 obtain ⟨i0,hi,hz0,hz1,hz2⟩:=info_parts info_i64
 go_enter Tryz.func14,Tryz.ntmps14
 go_wp2_with fail
 go_loopw [4,5,13] (fun v4 v5 v13 wr => ∃ (k:Nat) (va vb:Value),k≤sk∧v4 = va∧v5 = vb∧v13 = .int .i64 (k:Int)∧Hid (Kept w wr∧wr.ownsRow w.heap.size 3 1 va k (rowsV ps k)∧wr.ownsRow w.heap.size 3 1 vb k (colsV ps k)∧∀ g,va.ownBlock = some g→vb.ownBlock ≠ some g)) (fun _ _ v13 _ => sk - (intOf v13).toNat)
 case atStart => exact ⟨0,_,_,Nat.zero_le _,rfl,rfl,rfl,Kept.refl _,World.ownsRow_nil _ _ _ _,World.ownsRow_nil _ _ _ _,fun g e => by cases e⟩
 case round =>
  obtain ⟨k,va,vb,hkn,e4,e5,rfl,H⟩:=hrel
  subst e4 e5
  by_cases hlt:k < sk
  ·
   have hltz:(k:Int) < (sk:Int):=by omega
   have hk0:(0:Int)≤(k:Int):=by omega
   have hF:=HH.out.1.kept H.out.1
   obtain ⟨g,hg,_,_,hcl⟩:=hF.at (j:=k) (by have:=HH.out.2; omega)
   obtain ⟨S,hSd⟩:∃ S,S = Ss[k]'(by have:=HH.out.2; omega):=⟨_,rfl⟩
   rw [← hSd] at hcl
   have hkp:k < ps.length:=by have:=HH.out.2; omega
   have hst:=hF.sts.st k (by have:=HH.out.2; omega) hkp
   rw [← hSd] at hst
   have HXs:=hid (show rowsV ps (k + 1) = rowsV ps k ++ [.int .i64 (S.r:Int)]∧colsV ps (k + 1) = colsV ps k ++ [.int .i64 (S.c:Int)] by
    unfold rowsV colsV
    rw [take_snoc hkp,List.map_append,List.map_append,hst.er,hst.ec]
    exact ⟨rfl,rfl⟩)
   clear hst hkp
   subst hg
   have x0:wr.cell? ⟨g,k * 8,none⟩ = some (.int .i64 (S.r:Int)):=hcl 0 _ rfl
   have x1:=hcl 1 _ rfl
   have x2:=hcl 2 _ rfl
   have x3:=hcl 3 _ rfl
   have x4:=hcl 4 _ rfl
   have x5:=hcl 5 _ rfl
   have x6:=hcl 6 _ rfl
   have x7:=hcl 7 _ rfl
   have rP:=RowL.alloc 100 wr S.cells
   have kP:=(Kept.refl wr).alloc (.cells S.cells.toArray 100)
   obtain ⟨xa,hxa⟩:∃ l,l = rowsV ps k:=⟨_,rfl⟩
   obtain ⟨xb,hxb⟩:∃ l,l = colsV ps k:=⟨_,rfl⟩
   rw [← hxa,← hxb] at H HXs
   clear hcl hF hSd hxa hxb
   --%A
   go_upto_region 5 with fail
   simp only [StC.cells] at rP kP
   have hO:OrS w (wr.alloc (.cells #[.int .i64 (S.r:Int),.int .i64 (S.c:Int),.bool S.s1,.slice S.o1 S.k1 S.c1,.bool S.s2,.slice S.o2 S.k2 S.c2,.map (some S.ba),.map (some S.bd)] 100)) u4 u5 k k xa xb wr.heap.size [.int .i64 (S.r:Int),.int .i64 (S.c:Int),.bool S.s1,.slice S.o1 S.k1 S.c1,.bool S.s2,.slice S.o2 S.k2 S.c2,.map (some S.ba),.map (some S.bd)]:=⟨H.out.1.trans kP,World.ownsRow.alloc H.out.2.1 _,World.ownsRow.alloc H.out.2.2.1 _,H.out.2.2.2,rP⟩
   clear rP kP x0 x1 x2 x3 x4 x5 x6 x7
   obtain ⟨p7,hp7⟩:∃ p,p = wr.heap.size:=⟨_,rfl⟩
   rw [← hp7] at hO ⊢
   clear hp7
   generalize wr.alloc (.cells #[.int .i64 (S.r:Int),.int .i64 (S.c:Int),.bool S.s1,.slice S.o1 S.k1 S.c1,.bool S.s2,.slice S.o2 S.k2 S.c2,.map (some S.ba),.map (some S.bd)] 100) = w3 at hO ⊢
   have sS:=hid (fun (V:World) (va vb:Value) (ka kb:Nat) (xa xb:List Value) (h:OrS w V va vb ka kb xa xb p7 [.int .i64 (S.r:Int),.int .i64 (S.c:Int),.bool S.s1,.slice S.o1 S.k1 S.c1,.bool S.s2,.slice S.o2 S.k2 S.c2,.map (some S.ba),.map (some S.bd)]) => show (fun w':World => w'.cell? ⟨p7,0,none⟩ = some (.int .i64 (S.r:Int))∧w'.cell? ⟨p7,1,none⟩ = some (.int .i64 (S.c:Int))) V from ⟨h.box.cell 0 _ rfl,h.box.cell 1 _ rfl⟩)
   have hO:=hO.drew
   refine region_z 11 (S:=fun w' => w'.cell? ⟨p7,0,none⟩ = some (.int .i64 (S.r:Int))∧w'.cell? ⟨p7,1,none⟩ = some (.int .i64 (S.c:Int))) (by kernel_rfl) (sS.out _ _ _ _ _ _ _ hO) (fun hHeld => ?_)
   generalize w3.drew = Wd at hO hHeld ⊢
   refine zk 0 hHeld ?_
   refine zk 1 hHeld ?_
   refine zk 2 hHeld ?_
   refine zk 5 hHeld ?_
   refine zk 6 hHeld ?_
   refine zk 7 hHeld ?_
   --%B
   refine anyZ_ready (rs:=[3,8]) (by kernel_rfl) (by simp) ?_
   refine AllZ.cons rfl (fun K hK => ?_) (AllZ.cons rfl (fun K hK => ?_) AllZ.nil)
   ·
    refine ite_want (by kernel_rfl) ?_
    go_simp
    have hTA:=hO.tmp (.int .i64 (S.r:Int))
    have hO':=hO.alloc (.cells #[.int .i64 (S.r:Int)] 3)
    refine hK.out _ _ (sS.out _ _ _ _ _ _ _ hO') (fun hHeld => ?_)
    clear hK K hO
    have hO:=hO'
    clear hO'
    obtain ⟨tA,htA⟩:∃ p,p = Wd.heap.size:=⟨_,rfl⟩
    rw [← htA] at hTA ⊢
    clear htA
    generalize Wd.alloc (.cells #[.int .i64 (S.r:Int)] 3) = Wa at hO hTA hHeld ⊢
    refine anyZ_ready (rs:=[4,8]) (by kernel_rfl) (by simp) ?_
    refine AllZ.cons rfl (fun K hK => ?_) (AllZ.cons rfl (fun K hK => ?_) AllZ.nil)
    ·
     refine ite_want (by kernel_rfl) ?_
     refine wp_append_lies _ (.tmp 17) (.tmp 20) 41 rfl w.heap.size 3 i0 (.int .i64 0) 1 8 und_ints hi hz0 hz1 hz2 rfl (by decide) u4 k xa rfl hO.oa ⟨tA,0,none⟩ 1 1 [.int .i64 (S.r:Int)] rfl rfl hTA.news (by simp [Value.oneCell']) (by omega) (by unfold maxLen; omega) (by omega) hO.kept.size _ rfl ?_
     intro gA capA Wb ownA hgA hhA _
     have hO':=hO.appA ownA hgA hhA
     refine hK.out _ _ (sS.out _ _ _ _ _ _ _ hO') (fun hHeld => ?_)
     clear hK K hO hTA ownA hgA hhA
     have hO:=hO'
     clear hO'
     refine zr 8 fun K hK => ?_
     go_simp
     have hTB:=hO.tmp (.int .i64 (S.c:Int))
     have hO':=hO.alloc (.cells #[.int .i64 (S.c:Int)] 3)
     refine hK.out _ _ (sS.out _ _ _ _ _ _ _ hO') (fun hHeld => ?_)
     clear hK K hO
     have hO:=hO'
     clear hO'
     obtain ⟨tB,htB⟩:∃ p,p = Wb.heap.size:=⟨_,rfl⟩
     rw [← htB] at hTB ⊢
     clear htB
     generalize Wb.alloc (.cells #[.int .i64 (S.c:Int)] 3) = Wc at hO hTB hHeld ⊢
     refine zr 9 fun K hK => ?_
     refine wp_append_lies _ (.tmp 22) (.tmp 25) 41 rfl w.heap.size 3 i0 (.int .i64 0) 1 8 und_ints hi hz0 hz1 hz2 rfl (by decide) u5 k xb rfl hO.ob ⟨tB,0,none⟩ 1 1 [.int .i64 (S.c:Int)] rfl rfl hTB.news (by simp [Value.oneCell']) (by omega) (by unfold maxLen; omega) (by omega) hO.kept.size _ rfl ?_
     intro gB capB We ownB hgB hhB _
     have hO':=hO.appB ownB hgB hhB
     refine hK.out _ _ (sS.out _ _ _ _ _ _ _ hO') (fun hHeld => ?_)
     clear hK K hO hTB ownB hgB hhB
     have hO:=hO'
     clear hO'
     refine zr 10 fun K hK => ?_
     go_simp
     refine hK.out _ _ hHeld (fun hHeld => ?_)
     clear hK K
     refine zl fun K hK => ?_
     go_simp
     refine hK.out _ _ ?_
     clear hK K hHeld
     refine zd ?_
     have HN:=hid hO
     clear hO
     go_wp2_with fail
     go_roundw
     case rel => exact ⟨k + 1,_,_,by omega,rfl,rfl,by go_num,HN.out.kept,by rw [HXs.out.1]; exact HN.out.oa,by rw [HXs.out.2]; exact HN.out.ob,HN.out.ap⟩
     case measure => show sk - ((k:Int) + 1).toNat < sk - (k:Int).toNat; omega
    ·
     refine ite_want (by kernel_rfl) ?_
     go_simp
     have hTB:=hO.tmp (.int .i64 (S.c:Int))
     have hO':=hO.alloc (.cells #[.int .i64 (S.c:Int)] 3)
     have hTA:=hTA.alloc (.cells #[.int .i64 (S.c:Int)] 3)
     refine hK.out _ _ (sS.out _ _ _ _ _ _ _ hO') (fun hHeld => ?_)
     clear hK K hO
     have hO:=hO'
     clear hO'
     obtain ⟨tB,htB⟩:∃ p,p = Wa.heap.size:=⟨_,rfl⟩
     rw [← htB] at hTB ⊢
     clear htB
     generalize Wa.alloc (.cells #[.int .i64 (S.c:Int)] 3) = Wb at hO hTB hTA hHeld ⊢
     refine zr 4 fun K hK => ?_
     refine wp_append_lies _ (.tmp 17) (.tmp 20) 41 rfl w.heap.size 3 i0 (.int .i64 0) 1 8 und_ints hi hz0 hz1 hz2 rfl (by decide) u4 k xa rfl hO.oa ⟨tA,0,none⟩ 1 1 [.int .i64 (S.r:Int)] rfl rfl hTA.news (by simp [Value.oneCell']) (by omega) (by unfold maxLen; omega) (by omega) hO.kept.size _ rfl ?_
     intro gA capA Wc ownA hgA hhA _
     have hTB:=hTB.appA hgA hhA (n:=k + 1) (cap:=capA)
     have hO':=hO.appA ownA hgA hhA
     refine hK.out _ _ (sS.out _ _ _ _ _ _ _ hO') (fun hHeld => ?_)
     clear hK K hO hTA ownA hgA hhA
     have hO:=hO'
     clear hO'
     refine zr 9 fun K hK => ?_
     refine wp_append_lies _ (.tmp 22) (.tmp 25) 41 rfl w.heap.size 3 i0 (.int .i64 0) 1 8 und_ints hi hz0 hz1 hz2 rfl (by decide) u5 k xb rfl hO.ob ⟨tB,0,none⟩ 1 1 [.int .i64 (S.c:Int)] rfl rfl hTB.news (by simp [Value.oneCell']) (by omega) (by unfold maxLen; omega) (by omega) hO.kept.size _ rfl ?_
     intro gB capB We ownB hgB hhB _
     have hO':=hO.appB ownB hgB hhB
     refine hK.out _ _ (sS.out _ _ _ _ _ _ _ hO') (fun hHeld => ?_)
     clear hK K hO hTB ownB hgB hhB
     have hO:=hO'
     clear hO'
     refine zr 10 fun K hK => ?_
     go_simp
     refine hK.out _ _ hHeld (fun hHeld => ?_)
     clear hK K
     refine zl fun K hK => ?_
     go_simp
     refine hK.out _ _ ?_
     clear hK K hHeld
     refine zd ?_
     have HN:=hid hO
     clear hO
     go_wp2_with fail
     go_roundw
     case rel => exact ⟨k + 1,_,_,by omega,rfl,rfl,by go_num,HN.out.kept,by rw [HXs.out.1]; exact HN.out.oa,by rw [HXs.out.2]; exact HN.out.ob,HN.out.ap⟩
     case measure => show sk - ((k:Int) + 1).toNat < sk - (k:Int).toNat; omega
   ·
    refine ite_want (by kernel_rfl) ?_
    go_simp
    have hTB:=hO.tmp (.int .i64 (S.c:Int))
    have hO':=hO.alloc (.cells #[.int .i64 (S.c:Int)] 3)
    refine hK.out _ _ (sS.out _ _ _ _ _ _ _ hO') (fun hHeld => ?_)
    clear hK K hO
    have hO:=hO'
    clear hO'
    obtain ⟨tB,htB⟩:∃ p,p = Wd.heap.size:=⟨_,rfl⟩
    rw [← htB] at hTB ⊢
    clear htB
    generalize Wd.alloc (.cells #[.int .i64 (S.c:Int)] 3) = Wa at hO hTB hHeld ⊢
    refine zr 3 fun K hK => ?_
    go_simp
    have hTA:=hO.tmp (.int .i64 (S.r:Int))
    have hO':=hO.alloc (.cells #[.int .i64 (S.r:Int)] 3)
    have hTB:=hTB.alloc (.cells #[.int .i64 (S.r:Int)] 3)
    refine hK.out _ _ (sS.out _ _ _ _ _ _ _ hO') (fun hHeld => ?_)
    clear hK K hO
    have hO:=hO'
    clear hO'
    obtain ⟨tA,htA⟩:∃ p,p = Wa.heap.size:=⟨_,rfl⟩
    rw [← htA] at hTA ⊢
    clear htA
    generalize Wa.alloc (.cells #[.int .i64 (S.r:Int)] 3) = Wb at hO hTA hTB hHeld ⊢
    refine zr 4 fun K hK => ?_
    refine wp_append_lies _ (.tmp 17) (.tmp 20) 41 rfl w.heap.size 3 i0 (.int .i64 0) 1 8 und_ints hi hz0 hz1 hz2 rfl (by decide) u4 k xa rfl hO.oa ⟨tA,0,none⟩ 1 1 [.int .i64 (S.r:Int)] rfl rfl hTA.news (by simp [Value.oneCell']) (by omega) (by unfold maxLen; omega) (by omega) hO.kept.size _ rfl ?_
    intro gA capA Wc ownA hgA hhA _
    have hTB:=hTB.appA hgA hhA (n:=k + 1) (cap:=capA)
    have hO':=hO.appA ownA hgA hhA
    refine hK.out _ _ (sS.out _ _ _ _ _ _ _ hO') (fun hHeld => ?_)
    clear hK K hO hTA ownA hgA hhA
    have hO:=hO'
    clear hO'
    refine zr 9 fun K hK => ?_
    refine wp_append_lies _ (.tmp 22) (.tmp 25) 41 rfl w.heap.size 3 i0 (.int .i64 0) 1 8 und_ints hi hz0 hz1 hz2 rfl (by decide) u5 k xb rfl hO.ob ⟨tB,0,none⟩ 1 1 [.int .i64 (S.c:Int)] rfl rfl hTB.news (by simp [Value.oneCell']) (by omega) (by unfold maxLen; omega) (by omega) hO.kept.size _ rfl ?_
    intro gB capB We ownB hgB hhB _
    have hO':=hO.appB ownB hgB hhB
    refine hK.out _ _ (sS.out _ _ _ _ _ _ _ hO') (fun hHeld => ?_)
    clear hK K hO hTB ownB hgB hhB
    have hO:=hO'
    clear hO'
    refine zr 10 fun K hK => ?_
    go_simp
    refine hK.out _ _ hHeld (fun hHeld => ?_)
    clear hK K
    refine zl fun K hK => ?_
    go_simp
    refine hK.out _ _ ?_
    clear hK K hHeld
    refine zd ?_
    have HN:=hid hO
    clear hO
    go_wp2_with fail
    go_roundw
    case rel => exact ⟨k + 1,_,_,by omega,rfl,rfl,by go_num,HN.out.kept,by rw [HXs.out.1]; exact HN.out.oa,by rw [HXs.out.2]; exact HN.out.ob,HN.out.ap⟩
    case measure => show sk - ((k:Int) + 1).toNat < sk - (k:Int).toNat; omega
  ·
   have hltz:¬ (k:Int) < (sk:Int):=by omega
   obtain rfl:k = sk:=by omega
   --%D
   go_wp2_with fail
   go_ret2
   exact ⟨H.out.1,_,_,rfl,H.out.2⟩
end Bp
end Go.Proofs.YtlfhcbeniimnnaaGreat

namespace Go.Proofs.YtlfhcbeniimnnaaGreat
open Go.RowKit
open V (RowL RowL.alloc RowL.lt RowL.cell RowL.fz RowL.kept)
open Sp (hid)
namespace Bp
def oddAt (f:Nat→Nat) (k:Nat):Nat→Bool
 | 0 => false
 | t + 1 => xor (oddAt f k t) (decide (f k < f t))
def oddTo (f:Nat→Nat):Nat→Bool
 | 0 => false
 | k + 1 => xor (oddTo f k) (oddAt f k k)
def IxR (w:World) (ao:Option Addr) (n:Nat) (f:Nat→Nat):Prop:=0 < n→∃ b off:Nat,ao = some ⟨b,off,none⟩∧b < w.heap.size∧∀ j,j < n→w.cell? ⟨b,off + j,none⟩ = some (.int .i64 (f j:Int))
set_option maxRecDepth 100000 in
set_option maxHeartbeats 8000000 in
theorem odd_any (ao:Option Addr) (n c:Nat) (f:Nat→Nat) (w:World) (h:IxR w ao n f) (hn:n≤1000) (hc:n≤c) :
  Calls Tryz.prog 54 #[.slice ao n c] w fun e w' => w' = w∧e = .returned (.bool (oddTo f n)):=by
 go_enter Tryz.func54,Tryz.ntmps54
 go_wp2
 go_loopw [3,10] (fun v3 v10 wr => ∃ k:Nat,k≤n∧v3 = .bool (oddTo f k)∧v10 = .int .i64 (k:Int)∧Hid (wr = w)) (fun _ v10 _ => n - (intOf v10).toNat)
 case atStart => exact ⟨0,Nat.zero_le _,rfl,rfl,rfl⟩
 case round =>
  obtain ⟨k,hkn,rfl,rfl,H⟩:=hrel
  by_cases hlt:k < n
  ·
   have hltz:(k:Int) < (n:Int):=by omega
   have hk0:(0:Int)≤(k:Int):=by omega
   have hkc:(k:Int)≤(c:Int):=by omega
   obtain ⟨b,off,rfl,hb,hx⟩:=h (by omega)
   have hw:=H.out
   subst hw
   have x0:=hx k hlt
   have HX:=hid hx
   clear h hx
   --%A
   go_wp2_with fail
   go_loopw [3,19] (fun v3 v19 wq => ∃ j:Nat,j≤k∧v3 = .bool (xor (oddTo f k) (oddAt f k j))∧v19 = .int .i64 (j:Int)∧Hid (wq = wr)) (fun _ v19 _ => k - (intOf v19).toNat)
   case atStart => exact ⟨0,Nat.zero_le _,by simp [oddAt],rfl,rfl⟩
   case round =>
    obtain ⟨j,hjk,rfl,rfl,J⟩:=hrel
    have hw:=J.out
    subst hw
    by_cases hj:j < k
    ·
     have hjz:(j:Int) < (k:Int):=by omega
     have hj0:(0:Int)≤(j:Int):=by omega
     have y0:=HX.out j (by omega)
     by_cases hg:f k < f j
     ·
      have hgz:(f j:Int) > (f k:Int):=by omega
      have hgy:(f k:Int) < (f j:Int):=by omega
      go_wp2_with fail
      go_roundw
      case rel => exact ⟨j + 1,by omega,by simp [oddAt,hg],by go_num,trivial⟩
      case measure => show k - ((j:Int) + 1).toNat < k - (j:Int).toNat; omega
     ·
      have hgz:¬ (f j:Int) > (f k:Int):=by omega
      have hgy:¬ (f k:Int) < (f j:Int):=by omega
      go_wp2_with fail
      go_roundw
      case rel => exact ⟨j + 1,by omega,by simp [oddAt,hg],by go_num,trivial⟩
      case measure => show k - ((j:Int) + 1).toNat < k - (j:Int).toNat; omega
    ·
     have hjz:¬ (j:Int) < (k:Int):=by omega
     obtain rfl:j = k:=by omega
     go_wp2_with fail
     go_roundw
     case rel => exact ⟨j + 1,by omega,rfl,by go_num,trivial⟩
     case measure => show n - ((j:Int) + 1).toNat < n - (j:Int).toNat; omega
  ·
   have hltz:¬ (k:Int) < (n:Int):=by omega
   obtain rfl:k = n:=by omega
   have hw:=H.out
   subst hw
   go_wp2_with fail
   go_ret
   exact ⟨rfl,rfl⟩
end Bp
end Go.Proofs.YtlfhcbeniimnnaaGreat

namespace Go.Proofs.YtlfhcbeniimnnaaGreat
open Go.RowKit
open V (RowL RowL.alloc RowL.lt RowL.cell RowL.fz RowL.kept)
open Sp (hid)
open Ba (stg lastP pivs Fits)
open Bm (ZI ZI.kept)
namespace Bp
theorem own_ix {B n:Nat} {w:World} {v:Value} {ps:List (Nat × Nat)} (q:Nat × Nat→Nat) (h:w.ownsRow B 3 1 v n ((ps.take n).map fun p => .int .i64 (q p:Int))) (hn:n = ps.length):∃ ao c,v = .slice ao n c∧n≤c∧IxR w ao n (fun k => q (ps.getD k (0,0))):=by
 have h':=h
 rcases h.2 with ⟨rfl,h0⟩ | ⟨g,cap,cur,rfl,h1,h2,h3,_⟩
 ·
  exact ⟨none,0,by rw [h0],by omega,fun hp => by omega⟩
 ·
  refine ⟨_,_,rfl,h3,fun hp => ⟨g,0,rfl,(World.ownsRow.lt h' g rfl).2,fun j hj => ?_⟩⟩
  rw [Nat.zero_add,h'.cellAt j (by omega),List.getElem?_map,List.getElem?_take_of_lt hj,List.getElem?_eq_getElem (by omega)]
  show some (Value.int .i64 (q ps[j]:Int)) = some (.int .i64 (q (ps.getD j (0,0)):Int))
  rw [List.getD_eq_getElem?_getD,List.getElem?_eq_getElem (by omega)]
  rfl
def detP (M:Nat→Nat→Int) (ps:List (Nat × Nat)) (n:Nat):Int:=if oddTo (fun k => (ps.getD k (0,0)).1) n = oddTo (fun k => (ps.getD k (0,0)).2) n then lastP M ps else -lastP M ps
set_option maxRecDepth 100000 in
set_option maxHeartbeats 16000000 in
theorem det_any (B fb n limbs:Nat) (sa:Option Addr) (sk sc:Nat) (Ss:List StC) (M:Nat→Nat→Int) (ps:List (Nat × Nat)) (w:World) (h:FacR B w fb n limbs sa sk sc Ss M ps) (hne:lastP M ps ≠ 0) (hn:sk≤48) :
  Calls Tryz.prog 21 #[.pointer (some ⟨fb,0,none⟩)] w (TellsZ w (detP M ps sk)):=by
 obtain ⟨z,hz0⟩:∃ z,z = detP M ps sk:=⟨_,rfl⟩
 rw [← hz0]
 have HZ0:=hid hz0
 clear hz0
 have hsk:=h.len
 have HH:=hid (And.intro h (And.intro hne hsk))
 have br:=RowL.alloc 37 w [.bool false,.slice none 0 0]
 have bk:=(Kept.refl w).alloc (.cells #[.bool false,.slice none 0 0] 37)
 clear h hne hsk
 go_enter Tryz.func21,Tryz.ntmps21
 go_upto_region 1 with fail
 generalize w.alloc (.cells #[.bool false,.slice none 0 0] 37) = w1 at br bk ⊢
 obtain ⟨p2,hp2⟩:∃ p,p = w.heap.size:=⟨_,rfl⟩
 rw [← hp2] at br ⊢
 have ho:=order_any B fb n limbs sa sk sc Ss M ps w1 (HH.out.1.kept bk) hn
 have H1:=hid (And.intro br (And.intro bk hp2))
 clear br bk hp2
 --%A
 go_wp2_with fail
 refine ho.mono ?_
 rintro e w2 ⟨hk,va,vb,rfl,hra,hrb,_⟩
 obtain ⟨ao,ac,rfl,hac,hia⟩:=own_ix Prod.fst hra HH.out.2.2
 obtain ⟨bo,bc,rfl,hbc,hib⟩:=own_ix Prod.snd hrb HH.out.2.2
 have hoa:=odd_any ao sk ac _ w2 hia (by omega) hac
 have hob:=odd_any bo sk bc _ w2 hib (by omega) hbc
 have H2:=hid (And.intro (H1.out.1.kept hk) (And.intro (H1.out.2.1.trans hk) H1.out.2.2))
 have hla:=last_any B fb n limbs sa sk sc Ss M ps w2 (HH.out.1.kept H2.out.2.1) HH.out.2.1 (by omega)
 obtain ⟨pa,hpa⟩:∃ x,x = oddTo (fun k => (ps.getD k (0,0)).1) sk:=⟨_,rfl⟩
 obtain ⟨pb,hpb⟩:∃ x,x = oddTo (fun k => (ps.getD k (0,0)).2) sk:=⟨_,rfl⟩
 rw [← hpa] at hoa
 rw [← hpb] at hob
 have HZ:=hid (show z = if pa = pb then lastP M ps else -lastP M ps by rw [HZ0.out]; unfold detP; rw [hpa,hpb])
 clear hk hra hrb hia hib ho hac hbc hpa hpb
 cases pa with
 | false =>
  cases pb with
  | false =>
   go_wp2_with fail
   refine hoa.mono ?_
   rintro e w' ⟨rfl,rfl⟩
   go_wp2_with fail
   refine hob.mono ?_
   rintro e w' ⟨rfl,rfl⟩
   clear hoa hob
   --%C
   go_wp2_with fail
   refine hla.mono ?_
   rintro e w3 ⟨hk,s,o,k,c,rfl,hz⟩
   have H9:=hid (show RowL 37 w3 p2 [.bool false,.slice none 0 0]∧Kept w w3∧ZN w'.heap.size w3 s (.slice o k c) (lastP M ps)∧w.heap.size≤p2∧p2 < w'.heap.size∧w.heap.size≤w'.heap.size from ⟨H2.out.1.kept hk,H2.out.2.1.trans hk,hz,by rw [H2.out.2.2]; exact Nat.le_refl _,H2.out.1.lt,(H2.out.2.1).size⟩)
   clear hla hk hz
   have r9:=H9.out.1
   have d0:=r9.cell 0 _
   have d1:=r9.cell 1 _
   have f0:=r9.fz 0
   have f1:=r9.fz 1
   clear r9
   --%D
   go_wp2_with fail
   refine bodyPost_ret (v:=.agg #[.bool s,.slice o k c]) (by simp [results,Tryz.results21,go_sem,d0,d1]) rfl ⟨?_,s,o,k,c,rfl,?_⟩
   ·
    exact (H9.out.2.1.setCell (by simpa using H9.out.2.2.2.1) _).setCell (by simpa using H9.out.2.2.2.1) _
   ·
    rw [HZ.out,if_pos (by trivial)]
    exact ((H9.out.2.2.1.other (by simpa using H9.out.2.2.2.2.1) _).other (by simpa using H9.out.2.2.2.2.1) _).mono H9.out.2.2.2.2.2
  | true =>
   go_wp2_with fail
   refine hoa.mono ?_
   rintro e w' ⟨rfl,rfl⟩
   go_wp2_with fail
   refine hob.mono ?_
   rintro e w' ⟨rfl,rfl⟩
   clear hoa hob
   --%E
   go_wp2_with fail
   refine hla.mono ?_
   rintro e w3 ⟨hk3,s3,o3,k3,c3,rfl,hz3⟩
   have hop:=oppo_any s3 o3 k3 c3 (lastP M ps) w3 hz3.zi
   have K3:=hid (And.intro (H2.out.1.kept hk3) (And.intro (H2.out.2.1.trans hk3) H2.out.2.2))
   clear hla hk3 hz3
   go_wp2_with fail
   refine hop.mono ?_
   rintro e w4 ⟨hk,s,o,k,c,rfl,hz⟩
   have H9:=hid (show RowL 37 w4 p2 [.bool false,.slice none 0 0]∧Kept w w4∧ZN w3.heap.size w4 s (.slice o k c) (-lastP M ps)∧w.heap.size≤p2∧p2 < w3.heap.size∧w.heap.size≤w3.heap.size from ⟨K3.out.1.kept hk,K3.out.2.1.trans hk,hz,by rw [K3.out.2.2]; exact Nat.le_refl _,K3.out.1.lt,(K3.out.2.1).size⟩)
   clear hop hk hz
   have r9:=H9.out.1
   have d0:=r9.cell 0 _
   have d1:=r9.cell 1 _
   have f0:=r9.fz 0
   have f1:=r9.fz 1
   clear r9
   --%D
   go_wp2_with fail
   refine bodyPost_ret (v:=.agg #[.bool s,.slice o k c]) (by simp [results,Tryz.results21,go_sem,d0,d1]) rfl ⟨?_,s,o,k,c,rfl,?_⟩
   ·
    exact (H9.out.2.1.setCell (by simpa using H9.out.2.2.2.1) _).setCell (by simpa using H9.out.2.2.2.1) _
   ·
    rw [HZ.out,if_neg (by decide)]
    exact ((H9.out.2.2.1.other (by simpa using H9.out.2.2.2.2.1) _).other (by simpa using H9.out.2.2.2.2.1) _).mono H9.out.2.2.2.2.2
 | true =>
  cases pb with
  | false =>
   go_wp2_with fail
   refine hoa.mono ?_
   rintro e w' ⟨rfl,rfl⟩
   go_wp2_with fail
   refine hob.mono ?_
   rintro e w' ⟨rfl,rfl⟩
   clear hoa hob
   --%E
   go_wp2_with fail
   refine hla.mono ?_
   rintro e w3 ⟨hk3,s3,o3,k3,c3,rfl,hz3⟩
   have hop:=oppo_any s3 o3 k3 c3 (lastP M ps) w3 hz3.zi
   have K3:=hid (And.intro (H2.out.1.kept hk3) (And.intro (H2.out.2.1.trans hk3) H2.out.2.2))
   clear hla hk3 hz3
   go_wp2_with fail
   refine hop.mono ?_
   rintro e w4 ⟨hk,s,o,k,c,rfl,hz⟩
   have H9:=hid (show RowL 37 w4 p2 [.bool false,.slice none 0 0]∧Kept w w4∧ZN w3.heap.size w4 s (.slice o k c) (-lastP M ps)∧w.heap.size≤p2∧p2 < w3.heap.size∧w.heap.size≤w3.heap.size from ⟨K3.out.1.kept hk,K3.out.2.1.trans hk,hz,by rw [K3.out.2.2]; exact Nat.le_refl _,K3.out.1.lt,(K3.out.2.1).size⟩)
   clear hop hk hz
   have r9:=H9.out.1
   have d0:=r9.cell 0 _
   have d1:=r9.cell 1 _
   have f0:=r9.fz 0
   have f1:=r9.fz 1
   clear r9
   --%D
   go_wp2_with fail
   refine bodyPost_ret (v:=.agg #[.bool s,.slice o k c]) (by simp [results,Tryz.results21,go_sem,d0,d1]) rfl ⟨?_,s,o,k,c,rfl,?_⟩
   ·
    exact (H9.out.2.1.setCell (by simpa using H9.out.2.2.2.1) _).setCell (by simpa using H9.out.2.2.2.1) _
   ·
    rw [HZ.out,if_neg (by decide)]
    exact ((H9.out.2.2.1.other (by simpa using H9.out.2.2.2.2.1) _).other (by simpa using H9.out.2.2.2.2.1) _).mono H9.out.2.2.2.2.2
  | true =>
   go_wp2_with fail
   refine hoa.mono ?_
   rintro e w' ⟨rfl,rfl⟩
   go_wp2_with fail
   refine hob.mono ?_
   rintro e w' ⟨rfl,rfl⟩
   clear hoa hob
   --%C
   go_wp2_with fail
   refine hla.mono ?_
   rintro e w3 ⟨hk,s,o,k,c,rfl,hz⟩
   have H9:=hid (show RowL 37 w3 p2 [.bool false,.slice none 0 0]∧Kept w w3∧ZN w'.heap.size w3 s (.slice o k c) (lastP M ps)∧w.heap.size≤p2∧p2 < w'.heap.size∧w.heap.size≤w'.heap.size from ⟨H2.out.1.kept hk,H2.out.2.1.trans hk,hz,by rw [H2.out.2.2]; exact Nat.le_refl _,H2.out.1.lt,(H2.out.2.1).size⟩)
   clear hla hk hz
   have r9:=H9.out.1
   have d0:=r9.cell 0 _
   have d1:=r9.cell 1 _
   have f0:=r9.fz 0
   have f1:=r9.fz 1
   clear r9
   --%D
   go_wp2_with fail
   refine bodyPost_ret (v:=.agg #[.bool s,.slice o k c]) (by simp [results,Tryz.results21,go_sem,d0,d1]) rfl ⟨?_,s,o,k,c,rfl,?_⟩
   ·
    exact (H9.out.2.1.setCell (by simpa using H9.out.2.2.2.1) _).setCell (by simpa using H9.out.2.2.2.1) _
   ·
    rw [HZ.out,if_pos (by trivial)]
    exact ((H9.out.2.2.1.other (by simpa using H9.out.2.2.2.2.1) _).other (by simpa using H9.out.2.2.2.2.1) _).mono H9.out.2.2.2.2.2
end Bp
end Go.Proofs.YtlfhcbeniimnnaaGreat

namespace Go.Proofs.YtlfhcbeniimnnaaGreat
open Go.RowKit
open V (RowL RowL.alloc RowL.lt RowL.cell RowL.fz RowL.kept)
open Sp (hid)
open Sy
open Ba (stg lastP facS Fits)
open Bm (ZI ZI.kept MxR mxr_at mxr_kept cel_at mOk)
namespace Bp
set_option maxRecDepth 100000 in
set_option maxHeartbeats 8000000 in
theorem rightRow_any (ao:Option Addr) (rl cap n:Nat) (L:List CE) (w:World) (h:CsR w ao L) (hl:rl = L.length) (hrl:rl≤1000000) (hn:n≤1000000) :
    Calls Tryz.prog 72 #[.slice ao rl cap,.int .i64 (n:Int)] w fun e w' => Kept w w'∧e = .returned (.bool (cOk n (-1) L)):=by
  have HL:=hid (And.intro h hl)
  obtain ⟨z,hz⟩:∃ z,z = cOk n (-1) L:=⟨_,rfl⟩
  have HZ:=hid (show z = cOk n (0 - 1) (L.drop 0) from hz)
  rw [← hz]
  clear h hl hz
  go_enter Tryz.func72,Tryz.ntmps72
  go_wp2_with fail
  go_loopw [5,10] (fun v5 v10 wr => ∃ (k:Nat) (x:Int),k≤rl∧0≤x∧x≤(n:Int)∧v5 = .int .i64 x∧v10 = .int .i64 (k:Int)∧Hid (Kept w wr∧z = cOk n (x - 1) (L.drop k))) (fun _ v10 _ => rl - (intOf v10).toNat)
  case atStart => exact ⟨0,0,Nat.zero_le _,Int.le_refl _,Int.natCast_nonneg _,rfl,rfl,Kept.refl _,HZ.out⟩
  case round =>
    clear HZ
    obtain ⟨k,x,hkl,hx0,hxn,rfl,rfl,H⟩:=hrel
    generalize wr = w1 at H ⊢
    by_cases hkt:k < rl
    · have hkk:(k:Int) < (rl:Int):=by omega
      have hk0:(0:Int)≤(k:Int):=by omega
      have hkL:k < L.length:=by have:=HL.out.2; omega
      obtain ⟨b,off,y,m,zo,zc,zl,rfl,hce,hc,hok⟩:=cel_at HL.out.1 hkL
      have HZE:=hid hok
      obtain ⟨c0,c1,c2⟩:=hc _ H.out.1
      obtain ⟨xr,hxr⟩:∃ x,x = ZE.right ⟨m,zo,zc,zl⟩:=⟨_,rfl⟩
      obtain ⟨xn,hxn2⟩:∃ x,x = ZE.nought ⟨m,zo,zc,zl⟩:=⟨_,rfl⟩
      have HN:=hid (show z = (((decide (x - 1 < y) && decide (y < (n:Int))) && (xr && !xn)) && cOk n y (L.drop (k + 1))) by rw [H.out.2,cOk_at hkL,hce,hxr,hxn2])
      have HX:=hid (And.intro hxr hxn2)
      have HK:=hid H.out.1
      have hzl:zl.length≤9223372036854775807:=hok.2
      obtain ⟨nl,hnl⟩:∃ q,q = zl.length:=⟨_,rfl⟩
      rw [← hnl] at c2 hzl
      have HNL:=hid hnl
      have kA:=HK.out.alloc (.cells #[.int .i64 y,.bool m,.slice zo nl zc] 39)
      have rA:=RowL.alloc 39 w1 [.int .i64 y,.bool m,.slice zo nl zc]
      clear hc hok hce H hxr hxn2 hnl
      go_upto_region 5 with fail
      generalize w1.alloc (.cells #[.int .i64 y,.bool m,.slice zo nl zc] 39) = W at kA rA ⊢
      obtain ⟨q,hq⟩:∃ q,q = w1.heap.size:=⟨_,rfl⟩
      rw [← hq] at rA ⊢
      have HW:=hid (And.intro kA rA)
      have d0:=rA.cell 0 _
      have d1:=rA.cell 1 _
      have d2:=rA.cell 2 _
      clear kA rA hq c0 c1 c2 HK
      --%B
      by_cases e1:y < x
      · have HE:=hid (show z = false by rw [HN.out,decide_eq_false (show ¬ x - 1 < y by omega)]; rfl)
        go_wp2_with fail
        go_ret
        exact ⟨HW.out.1,by rw [HE.out]; rfl⟩
      · by_cases e2:(n:Int)≤y
        · have HE:=hid (show z = false by rw [HN.out,decide_eq_false (show ¬ y < (n:Int) by omega),Bool.and_false]; rfl)
          go_wp2_with fail
          go_ret
          exact ⟨HW.out.1,by rw [HE.out]; rfl⟩
        · have HN:=hid (show z = ((xr && !xn) && cOk n (y + 1 - 1) (L.drop (k + 1))) by rw [HN.out,decide_eq_true (show x - 1 < y by omega),decide_eq_true (show y < (n:Int) by omega),Bool.true_and,Bool.true_and,Int.add_sub_cancel])
          go_wp2_with fail
          --%C
          have h9:=nought_any m zo nl zc W
          have h9:Calls Tryz.prog 106 #[.agg #[.bool m,.slice zo nl zc]] W fun e w' => Kept W w'∧e = .returned (.bool xn):=by rw [HX.out.2]; unfold ZE.nought; rw [← HNL.out]; exact h9
          refine h9.mono ?_
          clear h9
          rintro e w2 ⟨hk,rfl⟩
          have HW:=hid (And.intro (HW.out.1.trans hk) (HW.out.2.kept hk))
          clear d0 d1 d2 hk
          have d0:=HW.out.2.cell 0 _
          have d1:=HW.out.2.cell 1 _
          have d2:=HW.out.2.cell 2 _
          cases xn with
          | true =>
            have HE:=hid (show z = false by rw [HN.out]; simp)
            go_wp2_with fail
            go_ret
            exact ⟨HW.out.1,by rw [HE.out]; rfl⟩
          | false =>
            --%D
            have hck:Calls Tryz.prog 84 #[.agg #[.bool m,.slice zo nl zc]] w2 fun e w' => Kept w2 w'∧e = .returned (.int .i64 (if xr = true then 0 else 10)):=by
              have hz:=HZE.out.kept HW.out.1
              have hz1:Sl w2 (.slice zo nl zc) zl:=by rw [HNL.out]; exact hz.1
              by_cases hr:R m zl
              · have e:xr = true:=by rw [HX.out.1]; exact right_R.2 hr
                rw [if_pos e]
                exact (check_yes m _ zl w2 hz1 hr).mono fun e w' ⟨a,b⟩ => ⟨b,a⟩
              · have e:¬ xr = true:=by rw [HX.out.1]; exact fun e => hr (right_R.1 e)
                rw [if_neg e]
                exact (check_no m _ zl w2 hz1 hz.2 hr).mono fun e w' ⟨a,b⟩ => ⟨b,a⟩
            cases xr with
            | false =>
              have hck:Calls Tryz.prog 84 #[.agg #[.bool m,.slice zo nl zc]] w2 fun e w' => Kept w2 w'∧e = .returned (.int .i64 10):=hck
              have HE:=hid (show z = false by rw [HN.out]; rfl)
              go_wp2_with fail
              refine hck.mono ?_
              rintro e w3 ⟨hk,rfl⟩
              have HK3:=hid (HW.out.1.trans hk)
              clear hk
              go_wp2_with fail
              go_ret
              exact ⟨HK3.out,by rw [HE.out]; rfl⟩
            | true =>
              have hck:Calls Tryz.prog 84 #[.agg #[.bool m,.slice zo nl zc]] w2 fun e w' => Kept w2 w'∧e = .returned (.int .i64 0):=hck
              have HE:=hid (show z = cOk n (y + 1 - 1) (L.drop (k + 1)) by rw [HN.out]; rfl)
              go_wp2_with fail
              refine hck.mono ?_
              rintro e w3 ⟨hk,rfl⟩
              have HW:=hid (And.intro (HW.out.1.trans hk) (HW.out.2.kept hk))
              clear d0 d1 d2 hk
              have d0:=HW.out.2.cell 0 _
              go_wp2_with fail
              go_roundw
              case rel => exact ⟨k + 1,y + 1,by omega,by omega,by omega,by go_num,by go_num,HW.out.1,HE.out⟩
              case measure => show rl - ((k:Int) + 1).toNat < rl - (k:Int).toNat; omega
    · have hkk:¬ (k:Int) < (rl:Int):=by omega
      have HE:=hid (show z = true by rw [H.out.2,List.drop_eq_nil_of_le (by have:=HL.out.2; omega)]; rfl)
      go_wp2_with fail
      go_ret
      exact ⟨H.out.1,by rw [HE.out]; rfl⟩
theorem enter_right (args:Array Value) (w:World):(callFunc 71 args).run Tryz.prog w = .ok (.enter 71 args) w:=by simp
def RwQ (L:List LE):World→Nat→Value→Prop:=fun W j v => ∃ ra rc,v = .slice ra (L.getD j ⟨none,0,[]⟩).cs.length rc∧CsR W ra (L.getD j ⟨none,0,[]⟩).cs
theorem RwQ.kept {L:List LE}:∀ (w w':World) (j:Nat) (v:Value),Kept w w'→RwQ L w j v→RwQ L w' j v:=by
  rintro w w' j v k ⟨ra,rc,h1,h2⟩
  exact ⟨ra,rc,h1,csr_kept h2 k⟩
set_option maxRecDepth 100000 in
set_option maxHeartbeats 4000000 in
theorem right1_any (cs:List CE) (ra:Option Addr) (rc:Nat) (ao:Option Addr) (n c p:Nat) (w:World) (h:CsR w ra cs) (hl:cs.length≤1000000) (hn:n≤1000000) (hc:w.cell? ⟨p,0,none⟩ = some (.slice ao n c)) :
    Calls Tryz.prog 71 #[.slice ra cs.length rc,.pointer (some ⟨p,0,none⟩)] w fun e w' => e = .returned (.bool (!cOk n (-1) cs))∧Kept w w':=by
  have hr:=rightRow_any ra cs.length rc n cs w h rfl hl hn
  generalize cs.length = rl at hr ⊢
  generalize cOk n (-1) cs = bb at hr ⊢
  clear h hl
  go_enter Tryz.func71,Tryz.ntmps71
  go_wp2_with fail
  refine hr.mono ?_
  rintro e w1 ⟨hk,rfl⟩
  have HK:=hid hk
  clear hk
  go_wp2_with fail
  go_ret
  exact ⟨by simp,HK.out⟩
set_option maxRecDepth 100000 in
set_option maxHeartbeats 4000000 in
theorem right_any (ao:Option Addr) (n c:Nat) (L:List LE) (w:World) (h:MxR w ao L) (hl:n = L.length) (hr:∀ l ∈ L,l.cs.length≤1000000) (hn:n≤1000000) :
    Calls Tryz.prog 35 #[.slice ao n c] w fun e w' => Kept w w'∧e = .returned (.bool (mOk L)):=by
  have HL:=hid (And.intro h (And.intro hl hr))
  have hm:mOk L = (decide (n≤48) && !anyB (fun j => !cOk n (-1) (L.getD j ⟨none,0,[]⟩).cs) n):=by
    unfold mOk
    rw [← hl]
    congr 1
    rw [Bool.eq_iff_iff,List.all_eq_true,Bool.not_eq_true',← Bool.not_eq_true,anyB_ex]
    constructor
    · rintro h ⟨j,hj,e⟩
      have hj':j < L.length:=by omega
      rw [List.getD_eq_getElem?_getD,List.getElem?_eq_getElem hj'] at e
      have:=h L[j] (List.getElem_mem hj')
      simp only [Option.getD_some] at e
      rw [this] at e
      cases e
    · intro h r hr
      obtain ⟨j,hj,rfl⟩:=List.getElem_of_mem hr
      cases e:cOk n (-1) L[j].cs with
      | true => rfl
      | false =>
        exfalso
        refine h ⟨j,by omega,?_⟩
        rw [List.getD_eq_getElem?_getD,List.getElem?_eq_getElem hj]
        simp only [Option.getD_some]
        rw [e]; rfl
  obtain ⟨z,hz⟩:∃ z,z = mOk L:=⟨_,rfl⟩
  rw [← hz] at hm ⊢
  have HM:=hid hm
  clear h hl hr hz hm
  have r:=RowL.alloc 22 w [.slice ao n c]
  have k:=(Kept.refl w).alloc (.cells #[.slice ao n c] 22)
  go_enter Tryz.func35,Tryz.ntmps35
  go_upto_region 1 with fail
  generalize w.alloc (.cells #[.slice ao n c] 22) = W at r k ⊢
  obtain ⟨p,hp⟩:∃ p,p = w.heap.size:=⟨_,rfl⟩
  rw [← hp] at r ⊢
  clear hp
  have c0:=r.cell 0 _
  by_cases h48:48 < n
  · have HE:=hid (show z = false by rw [HM.out,decide_eq_false (by omega)]; rfl)
    have hz48:(48:Int) < (n:Int):=by omega
    have HK:=hid k
    clear k
    go_wp2_with fail
    go_ret
    exact ⟨HK.out,by rw [HE.out]; rfl⟩
  · have hz48:¬ (48:Int) < (n:Int):=by omega
    have HE:=hid (show z = !anyB (fun j => !cOk n (-1) (L.getD j ⟨none,0,[]⟩).cs) n by rw [HM.out,decide_eq_true (by omega),Bool.true_and])
    have hel:El1 isSl (RwQ L) W (.slice ao n c) n:=by
      refine ⟨ao,c,rfl,fun h0 => ?_⟩
      have h1:=mxr_kept HL.out.1 k
      have hn0:0 < L.length:=by have:=HL.out.2.1; omega
      obtain ⟨b,off,e,hb,hx⟩:=h1 hn0
      refine ⟨b,off,e,hb,fun j hj => ?_⟩
      have hj':j < L.length:=by have:=HL.out.2.1; omega
      obtain ⟨h2,h3⟩:=hx j hj'
      refine ⟨L[j].v,⟨_,_,_,rfl⟩,?_,L[j].ao,L[j].cap,?_,?_⟩
      · have:=h2 0 _ rfl
        rw [Nat.mul_one,Nat.add_zero] at this
        exact this
      · rw [List.getD_eq_getElem?_getD,List.getElem?_eq_getElem hj']; rfl
      · rw [List.getD_eq_getElem?_getD,List.getElem?_eq_getElem hj']; exact h3
    have hcon:=con_rows 71 #[.pointer (some ⟨p,0,none⟩)] (fun j => !cOk n (-1) (L.getD j ⟨none,0,[]⟩).cs) enter_right (RwQ L) RwQ.kept ao n c W (fun V j v K hj hq => by
      obtain ⟨ra,rc,rfl,hC⟩:=hq
      have hr:=r.kept K
      have hj':j < L.length:=by have:=HL.out.2.1; omega
      exact (right1_any _ ra rc ao n c p V hC (by rw [List.getD_eq_getElem?_getD,List.getElem?_eq_getElem hj']; exact HL.out.2.2 _ (List.getElem_mem hj')) (by omega) (hr.cell 0 _)).mono fun e w' ⟨a,b⟩ => ⟨a,K.trans b⟩) hel (by omega)
    rw [show anyB (fun j => !cOk n (-1) (L.getD j ⟨none,0,[]⟩).cs) n = !z by rw [HE.out]; simp] at hcon
    have HK:=hid k
    clear k hel
    go_wp2_with fail
    refine hcon.mono ?_
    rintro e w1 ⟨hk,rfl⟩
    have HK:=hid (HK.out.trans hk)
    clear hk hcon
    go_wp2_with fail
    go_ret
    exact ⟨HK.out,by simp⟩
def NewIs (L:List LE) (n:Nat) (limbs:Int) (w:World) (e:Ending) (w':World):Prop :=
  Kept w w'∧((mOk L = false∧e = .returned (.tuple #[.pointer none,.int .i64 0,.int .i64 130])) ∨
    (mOk L = true∧(limbs < 1 ∨ 32 < limbs)∧e = .returned (.tuple #[.pointer none,.int .i64 0,.int .i64 1])) ∨
    (mOk L = true∧(1≤limbs∧limbs≤32)∧∃ ps er,facS n limbs.toNat (matF L) = (ps,er)∧Fits n (matF L) ps ∧
      ((er ≠ 0∧e = .returned (.tuple #[.pointer none,.int .i64 (ps.length:Int),.int .i64 er])) ∨
       (er = 0∧∃ fb sa sk sc Ss,e = .returned (.tuple #[.pointer (some ⟨fb,0,none⟩),.int .i64 (ps.length:Int),.int .i64 0])∧FacR w.heap.size w' fb n limbs.toNat sa sk sc Ss (matF L) ps))))
set_option maxRecDepth 100000 in
set_option maxHeartbeats 8000000 in
theorem new_any (ao:Option Addr) (n c:Nat) (limbs:Int) (L:List LE) (w:World) (h:MxR w ao L) (hl:n = L.length) (hr:∀ l ∈ L,l.cs.length≤1000000) (hn:n≤1000000) (hb1:-9223372036854775808≤limbs) (hb2:limbs≤9223372036854775807) :
    Calls Tryz.prog 12 #[.slice ao n c,.int .i64 limbs] w (NewIs L n limbs w):=by
  obtain ⟨Q,hQ⟩:∃ Q,Q = NewIs L n limbs w:=⟨_,rfl⟩
  rw [← hQ]
  have HQ:=hid hQ
  clear hQ
  have hrt:=right_any ao n c L w h hl hr hn
  have HL:=hid (And.intro h (And.intro hl hr))
  clear h hl hr
  obtain ⟨ok,hok⟩:∃ x,x = mOk L:=⟨_,rfl⟩
  rw [← hok] at hrt
  have HO:=hid hok
  clear hok
  go_enter Tryz.func12,Tryz.ntmps12
  cases ok with
  | false =>
    go_wp2_with fail
    refine hrt.mono ?_
    rintro e w1 ⟨hk,rfl⟩
    have HK:=hid hk
    clear hk hrt
    go_wp2_with fail
    go_ret3
    rw [HQ.out]
    exact ⟨HK.out,.inl ⟨HO.out.symm,rfl⟩⟩
  | true =>
    by_cases h1:limbs < 1
    · go_wp2_with fail
      refine hrt.mono ?_
      rintro e w1 ⟨hk,rfl⟩
      have HK:=hid hk
      clear hk hrt
      go_wp2_with fail
      go_ret3
      rw [HQ.out]
      exact ⟨HK.out,.inr (.inl ⟨HO.out.symm,.inl h1,rfl⟩)⟩
    · by_cases h2:32 < limbs
      · go_wp2_with fail
        refine hrt.mono ?_
        rintro e w1 ⟨hk,rfl⟩
        have HK:=hid hk
        clear hk hrt
        go_wp2_with fail
        go_ret3
        rw [HQ.out]
        exact ⟨HK.out,.inr (.inl ⟨HO.out.symm,.inr h2,rfl⟩)⟩
      · obtain ⟨lm,rfl⟩:∃ k:Nat,limbs = (k:Int):=⟨limbs.toNat,by omega⟩
        have HLm:=hid (show 1≤lm∧lm≤32 by omega)
        --%A
        go_wp2_with fail
        refine hrt.mono ?_
        rintro e w1 ⟨hk,rfl⟩
        have HK:=hid hk
        clear hk hrt
        have rF:=RowL.alloc 82 w1 [.int .i64 (lm:Int),.slice none 0 0]
        have kF:=(Kept.refl w1).alloc (.cells #[.int .i64 (lm:Int),.slice none 0 0] 82)
        --%B
        go_upto_region 6 with fail
        generalize w1.alloc (.cells #[.int .i64 (lm:Int),.slice none 0 0] 82) = w2 at rF kF ⊢
        obtain ⟨fb,hfb⟩:∃ p,p = w1.heap.size:=⟨_,rfl⟩
        rw [← hfb] at rF ⊢
        have K2:=HK.out.trans kF
        have htb:=tableOf_any w.heap.size ao n c L w2 (mxr_kept HL.out.1 K2) HL.out.2.1 HO.out.symm K2.size
        have HF:=hid (And.intro rF (And.intro K2 (show w.heap.size≤fb by rw [hfb]; exact HK.out.size)))
        clear rF kF hfb K2
        --%C
        go_wp2_with fail
        refine htb.mono ?_
        rintro e w3 ⟨hk,v,rfl,bs,hU⟩
        obtain ⟨ta,tc,bt,rfl,hT⟩:=hU.tab HF.out.2.1.size
        have hM48:n≤48:=by
          have:=HO.out
          unfold mOk at this
          have:=this.symm
          rw [Bool.and_eq_true,decide_eq_true_eq] at this
          have h3:=HL.out.2.1
          omega
        have hT2:TabR w.heap.size w3 ta bt n (fun i => bs[i]?) (stF n (matF L) []):=hT.congr fun i j hi => by
          by_cases hj:j < n
          · rw [stF_nil hi hj]
          · have e1:matF L i j = 0:=by
              rcases Int.lt_trichotomy (matF L i j) 0 with h | h | h
              · exact absurd ((hT.row i hi).lt_n (k:=j) (by omega)) hj
              · exact h
              · exact absurd ((hT.row i hi).lt_n (k:=j) (by omega)) hj
            rw [e1]
            unfold stF
            rw [if_neg (fun e => hj e.1.2)]
        have hfac:FacR w.heap.size w3 fb n lm none 0 0 [] (matF L) []:=⟨HF.out.1.kept hk,HF.out.2.2,⟨rfl,World.ownsRow_nil _ _ _ _,fun j hj => absurd hj (Nat.not_lt_zero _)⟩⟩
        have hft:=factor_any w.heap.size fb n lm bt (fun i => bs[i]?) (matF L) ta tc w3 hfac hT2 (fun i hi => ⟨bs[i]'(by rw [hU.len]; exact hi),by rw [List.getElem?_eq_getElem]⟩) hM48 HLm.out.2 (HF.out.2.1.trans hk).size
        have HK3:=hid (HF.out.2.1.trans hk)
        clear hk htb hU hT hT2 hfac
        --%D
        go_wp2_with fail
        refine hft.mono ?_
        rintro e w4 ⟨hx,er,ps,sa,sk,sc,Ss,rfl,hfs,hfi,hfac⟩
        have HK4:=hid (KX.kept HK3.out hx (fun k hk => hk))
        have hsk:=hfac.len
        have c1:=hfac.box.cell 1 _
        have HR:=hid (And.intro hfs (And.intro hfi (And.intro hfac hsk)))
        clear hft hx hfs hfi hfac hsk
        by_cases he:er = 0
        · subst he
          --%E
          go_upto_region 9 with fail
          have KT:Kept w4 w4.drew:=(Kept.refl _).drew
          refine wp_region_held_drew (S:=fun w' => w'.cell? ⟨fb,1,none⟩ = some (.slice sa sk sc)) (by kernel_rfl) ((HR.out.2.2.1.kept KT).box.cell 1 _) (fun hHeld => ?_)
          generalize w4.drew = w5 at KT hHeld ⊢
          have HK5:=hid (And.intro (HK4.out.trans KT) (HR.out.2.2.1.kept KT))
          clear KT c1
          refine tk 0 hHeld ?_
          refine tk 1 hHeld ?_
          refine tk 2 hHeld ?_
          refine tk 3 hHeld ?_
          refine tk 4 hHeld ?_
          refine tk 5 hHeld ?_
          refine tk 6 hHeld ?_
          refine tk 7 hHeld ?_
          refine tk 8 hHeld ?_
          refine wpAnyH_done (by kernel_rfl) ?_ _
          go_wp2_with fail
          go_ret3
          rw [HQ.out,HR.out.2.2.2]
          exact ⟨HK5.out.1,.inr (.inr ⟨HO.out.symm,by have:=HLm.out; omega,ps,0,HR.out.1,HR.out.2.1,.inr ⟨rfl,fb,sa,sk,sc,Ss,rfl,HK5.out.2⟩⟩)⟩
        · --%F
          go_upto_region 8 with fail
          have KT:Kept w4 w4.drew:=(Kept.refl _).drew
          refine wp_region_held_drew (S:=fun w' => w'.cell? ⟨fb,1,none⟩ = some (.slice sa sk sc)) (by kernel_rfl) ((HR.out.2.2.1.kept KT).box.cell 1 _) (fun hHeld => ?_)
          generalize w4.drew = w5 at KT hHeld ⊢
          have HK5:=hid (HK4.out.trans KT)
          clear KT c1
          have HE:=hid he
          clear he
          refine tk 0 hHeld ?_
          refine tk 1 hHeld ?_
          refine tk 2 hHeld ?_
          refine tk 3 hHeld ?_
          refine tk 4 hHeld ?_
          refine tk 5 hHeld ?_
          refine tk 6 hHeld ?_
          refine tk 7 hHeld ?_
          refine tk 8 hHeld ?_
          refine wpAnyH_done (by kernel_rfl) ?_ _
          go_wp2_with fail
          go_ret3
          rw [HQ.out,HR.out.2.2.2]
          exact ⟨HK5.out,.inr (.inr ⟨HO.out.symm,by have:=HLm.out; omega,ps,er,HR.out.1,HR.out.2.1,.inl ⟨HE.out,rfl⟩⟩)⟩
end Bp
end Go.Proofs.YtlfhcbeniimnnaaGreat

namespace Go.Proofs.YtlfhcbeniimnnaaGreat
open Ba (det det_succ sm_mul sm_congr sg det_rows det_congr det_tp det_range det_pivots stg_bar last_prod lastP Fits cast)
namespace Bp
def cnt (x:Nat):List Nat→Bool
 | [] => false
 | y :: t => xor (decide (y < x)) (cnt x t)
def cntU (x:Nat):List Nat→Bool
 | [] => false
 | y :: t => xor (decide (x < y)) (cntU x t)
def inv:List Nat→Bool
 | [] => false
 | x :: t => xor (cnt x t) (inv t)
def sgb (b:Bool):Rat:=if b = true then -1 else 1
section
variable {n:Nat} {M:Nat→Nat→Int} {ps:List (Nat × Nat)}
end
end Bp
end Go.Proofs.YtlfhcbeniimnnaaGreat

namespace Go.Proofs.YtlfhcbeniimnnaaGreat
open Ba (stg lastP barQ bstep pivs leftR leftC wideZ wideM nz facGo facS)
namespace Bp
def aM:Nat→Nat→Int:=fun i j => if i = 0 then (if j = 0 then 2 else 1) else (if j = 0 then 1 else 3)
def aN:Nat→Nat→Int:=fun i j => if i = 0 then (if j = 0 then 1 else 2) else (if j = 0 then 2 else 4)
def aB:Nat→Int:=fun i => if i = 0 then 5 else 10
end Bp
end Go.Proofs.YtlfhcbeniimnnaaGreat

namespace Go.Proofs.YtlfhcbeniimnnaaGreat
open Go.RowKit
open Sy
open Bm (ZI ZI.kept ZI.of MxR ZsR mOk rowZ xz rowZ_take)
open Ba (stg lastP pivs wideZ facS Fits IsSol isum)
namespace Bp
theorem fac0_len {n l:Nat} {M:Nat→Nat→Int} {ps:List (Nat × Nat)} (hs:facS n l M = (ps,0)):ps.length = n:=by
 obtain ⟨qs,e,h1,_,h2⟩:=Ba.fac_is (n:=n) (limbs:=l) (M:=M)
 rw [hs] at h1
 cases h1
 rcases h2 with ⟨_,h2,_⟩ | ⟨h2,_⟩ | ⟨h2,_⟩
 ·
  exact h2
 ·
  cases h2
 ·
  cases h2
theorem cOk_pair {n:Nat}:∀ {cs:List CE} {last:Int},cOk n last cs = true→∀ i k (hk:k < cs.length) (hik:i < k),(cs[i]'(by omega)).col < cs[k].col:=by
 intro cs
 induction cs with
 | nil => intro last _ i k hk; exact absurd hk (Nat.not_lt_zero _)
 | cons c t ih =>
  intro last h i k hk hik
  have h:(((decide (last < c.col) && decide (c.col < (n:Int))) && (c.val.right && !c.val.nought)) && cOk n c.col t) = true:=h
  simp only [Bool.and_eq_true,decide_eq_true_eq] at h
  match i,k,hik with
  | 0,k + 1,_ => exact (cOk_get h.2 k (by simpa using hk)).1
  | i + 1,k + 1,hik => exact ih h.2 i k (by simpa using hk) (by omega)
theorem msum_upd {n c:Nat} {f X:Nat→Int} {v:Int} (hc:c < n) (h0:f c = 0):msum n (upd f c v) X = msum n f X + v * X c:=by
 unfold msum
 have key:∀ l:List Nat,l.Nodup→(l.map fun k => upd f c v k * X k).sum = (l.map fun k => f k * X k).sum + (if c ∈ l then v * X c else 0):=by
  intro l
  induction l with
  | nil => intro _; simp
  | cons a t ih =>
   intro hn
   rw [List.nodup_cons] at hn
   rw [List.map_cons,List.map_cons,List.sum_cons,List.sum_cons,ih hn.2]
   by_cases e:c = a
   ·
    subst e
    rw [if_neg hn.1,if_pos (List.mem_cons_self ..)]
    unfold upd
    rw [if_pos rfl,h0]
    omega
   ·
    have e1:upd f c v a = f a:=by unfold upd; rw [if_neg (fun h => e h.symm)]
    rw [e1]
    by_cases hm:c ∈ t
    ·
     rw [if_pos hm,if_pos (List.mem_cons_of_mem _ hm)]; omega
    ·
     rw [if_neg hm,if_neg (by rw [List.mem_cons]; rintro (h | h); exact e h; exact hm h)]; omega
 rw [key _ List.nodup_range,if_pos (List.mem_range.2 hc)]
theorem rowF_none {cs:List CE} {c:Nat}:∀ k,k≤cs.length→(∀ i (hi:i < cs.length),i < k→cs[i].col.toNat ≠ c)→rowF (cs.take k) c = 0:=by
 intro k
 induction k with
 | zero => intro _ _; rfl
 | succ k ih =>
  intro hk h
  rw [rowF_take (by omega)]
  unfold upd
  rw [if_neg (fun e => h k (by omega) (by omega) e.symm)]
  exact ih (by omega) fun i hi hik => h i hi (by omega)
theorem row_msum {n:Nat} {xs:List ZE} {cs:List CE} (h:cOk n (-1) cs = true):rowZ xs cs = msum n (rowF cs) (xz xs):=by
 have key:∀ k,k≤cs.length→rowZ xs (cs.take k) = msum n (rowF (cs.take k)) (xz xs):=by
  intro k
  induction k with
  | zero =>
   intro _
   show (0:Int) = ((List.range n).map fun c => (0:Int) * xz xs c).sum
   rw [sum_null fun c _ => by rw [Int.zero_mul]]
  | succ k ih =>
   intro hk
   obtain ⟨g1,g2,_,_⟩:=cOk_get h k (by omega)
   rw [rowZ_take (by omega),rowF_take (by omega),msum_upd (by omega) (rowF_none k (by omega) fun i hi hik e => by
    have h1:=cOk_pair h i k (by omega) hik
    have h2:=(cOk_get h i (by omega)).1
    omega),ih (by omega)]
 have:=key cs.length (Nat.le_refl _)
 rw [List.take_of_length_le (Nat.le_refl _)] at this
 exact this
section
variable {n:Nat} {M:Nat→Nat→Int} {b:Nat→Int} {ps:List (Nat × Nat)}
theorem sol_msum (h:Fits n M ps) (hl:ps.length = n) {X:Nat→Int} (hX:IsSol n M b ps X) {i:Nat} (hi:i < n):msum n (M i) X = lastP M ps * b i:=by
 obtain ⟨p,hp,rfl⟩:=List.mem_map.1 (all_rows h hl hi)
 have h1:=Ba.sol_rows h.piv (fun p hp => by have:=(h.lt p hp).2; omega) hX p hp
 rw [isum_sum] at h1
 unfold msum
 rw [← sum_perm (cols_perm h hl)]
 exact h1
theorem msum_neg (f X:Nat→Int):msum n f (fun j => -X j) = -msum n f X:=by
 unfold msum
 induction List.range n with
 | nil => rfl
 | cons a t ih => rw [List.map_cons,List.map_cons,List.sum_cons,List.sum_cons,ih,Int.mul_neg,Int.neg_add]
theorem msum_congr {f X Y:Nat→Int} (h:∀ j,j < n→X j = Y j):msum n f X = msum n f Y:=by
 unfold msum
 congr 1
 exact List.map_congr_left fun c hc => by rw [h c (List.mem_range.1 hc)]
def solX (n:Nat) (M:Nat→Nat→Int) (b:Nat→Int) (ps:List (Nat × Nat)) (j:Nat):Int:=if lastP M ps < 0 then -bkA n M b ps j else bkA n M b ps j
def solD (M:Nat→Nat→Int) (ps:List (Nat × Nat)):Int:=if lastP M ps < 0 then -lastP M ps else lastP M ps
theorem solX_row (h:Fits n M ps) (hl:ps.length = n) {i:Nat} (hi:i < n):msum n (M i) (solX n M b ps) = solD M ps * b i:=by
 have h1:=sol_msum h hl (bkA_sol (b:=b) h hl) hi
 unfold solD
 by_cases e:lastP M ps < 0
 ·
  have e2:solX n M b ps = fun j => -bkA n M b ps j:=funext fun j => by unfold solX; rw [if_pos e]
  rw [e2,if_pos e,msum_neg,h1,Int.neg_mul]
 ·
  have e2:solX n M b ps = fun j => bkA n M b ps j:=funext fun j => by unfold solX; rw [if_neg e]
  rw [e2,if_neg e]
  exact h1
theorem solD_pos (h:Fits n M ps):0 < solD M ps:=by
 have:=Ba.last_ne h.piv
 unfold solD
 split <;> omega
theorem solD_abs:solD M ps = ((lastP M ps).natAbs:Int):=by unfold solD; split <;> omega
theorem detP_abs (k:Nat):((detP M ps k).natAbs:Int) = solD M ps:=by
 rw [solD_abs]
 unfold detP
 split
 ·
  rfl
 ·
  rw [Int.natAbs_neg]
end
theorem sdx_zs {B n xc:Nat} {w:World} {xo:Option Addr} {X:Nat→Int} (h:SdX (EN B) B w xo n xc X):∃ xs:List ZE,xs.length = n∧ZsR w xo xs∧(∀ z ∈ xs,z.right = true)∧∀ j,j < n→xz xs j = X j:=by
 rcases Nat.eq_zero_or_pos n with h0 | h0
 ·
  subst h0
  exact ⟨[],rfl,fun h => absurd h (Nat.lt_irrefl 0),(fun z hz => by cases hz),fun j hj => absurd hj (Nat.not_lt_zero _)⟩
 ·
  obtain ⟨g,_,_,_,_,rfl,hg,_⟩:=h.at h0
  have hex:∀ j,∃ z:ZE,j < n→(w.cell? ⟨g,j * 2,none⟩ = some (.bool z.neg)∧w.cell? ⟨g,j * 2 + 1,none⟩ = some z.v)∧z.ok w∧z.right = true∧M.int z.neg z.lim = X j:=fun j => by
   by_cases hj:j < n
   ·
    obtain ⟨g',s,ao,k,cap,e,_,v1,v2,⟨l,hn,hr,hi⟩,_⟩:=h.at hj
    cases e
    have e1:=hn.sl.len
    subst e1
    exact ⟨⟨s,ao,cap,l⟩,fun _ => ⟨⟨v1,v2⟩,⟨hn.sl,by have:=hr.len; show l.length≤_; omega⟩,right_R.2 (R.of_right hr),hi⟩⟩
   ·
    exact ⟨⟨false,none,0,[]⟩,fun h => absurd h hj⟩
  have hlen:((List.range n).map fun j => Classical.choose (hex j)).length = n:=by simp
  have hget:∀ j (hj:j < n),((List.range n).map fun j => Classical.choose (hex j))[j]'(by rw [hlen]; exact hj) = Classical.choose (hex j):=fun j hj => by simp
  refine ⟨(List.range n).map fun j => Classical.choose (hex j),hlen,fun _ => ⟨g,0,rfl,hg.2,fun j hj => ?_⟩,fun z hz => ?_,fun j hj => ?_⟩
  ·
   rw [hlen] at hj
   have h1:=Classical.choose_spec (hex j) hj
   rw [hget j hj]
   refine ⟨fun i u hu => ?_,h1.2.1⟩
   match i,hu with
   | 0,hu => cases hu; rw [Nat.zero_add,Nat.add_zero]; exact h1.1.1
   | 1,hu => cases hu; rw [Nat.zero_add]; exact h1.1.2
  ·
   obtain ⟨j,hj,rfl⟩:=List.mem_map.1 hz
   exact (Classical.choose_spec (hex j) (List.mem_range.1 hj)).2.2.1
  ·
   unfold xz
   rw [List.getElem?_eq_getElem (by rw [hlen]; exact hj),hget j hj]
   exact (Classical.choose_spec (hex j) hj).2.2.2
theorem SolIs.cases {w:World} {n m limbs:Nat} {bq:Nat→Bool} {M:Nat→Nat→Int} {b:Nat→Int} {ps:List (Nat × Nat)} {e:Ending} {w':World} (h:SolIs w n m limbs bq M b ps (bkA n M b ps) e w') :
  Kept w w'∧((∃ c:Int,c ≠ 0∧e = solE c) ∨ (m = n∧(∀ j,j < m→bq j = true)∧∃ xo xc s o k c,e = .returned (.tuple #[.agg #[.slice xo n xc,.bool s,.slice o k c],.int .i64 0])∧SdX (EN w.heap.size) w.heap.size w' xo n xc (solX n M b ps)∧ZN w.heap.size w' s (.slice o k c) (solD M ps))):=by
 obtain ⟨hk,⟨_,rfl⟩ | ⟨_,_,rfl⟩ | ⟨h1,h2,⟨_,rfl⟩ | ⟨_,⟨_,rfl⟩ | ⟨_,xo,xc,s,o,k,c,rfl,hX,hD⟩⟩⟩⟩:=h
 ·
  exact ⟨hk,.inl ⟨5,by decide,rfl⟩⟩
 ·
  exact ⟨hk,.inl ⟨10,by decide,rfl⟩⟩
 ·
  exact ⟨hk,.inl ⟨13,by decide,rfl⟩⟩
 ·
  exact ⟨hk,.inl ⟨13,by decide,rfl⟩⟩
 ·
  refine ⟨hk,.inr ⟨h1,fun j hj => ?_,xo,xc,s,o,k,c,rfl,hX,hD⟩⟩
  cases e:bq j with
  | true => rfl
  | false =>
   have:anyB (fun j => !bq j) m = true:=anyB_ex.2 ⟨j,hj,by rw [e]; rfl⟩
   rw [h2] at this
   cases this
end Bp
end Go.Proofs.YtlfhcbeniimnnaaGreat

/- rat.sum: the sum of two right fractions, or that it is too wide. -/
import Derived.Test.YthfbfbfambbkaaaGreatDoorTk
import Derived.Test.YthfbfbfambbkaaaGreatDoorFover
import Derived.Test.YthfbfbfambbkaaaGreatDoorFmod
import Derived.Test.YthfbfbfambbkaaaGreatDoorFjq
import Derived.Test.YthfbfbfambbkaaaGreatDoorGaa
import Derived.Test.YthfbfbfambbkaaaGreatDoorGam
import Derived.Test.YthfbfbfambbkaaaGreatDoorGal
namespace Go.Proofs.YthfbfbfambbkaaaGreatDoor
open Go.RowKit
namespace F
theorem den_cast (a b:Nat):(a:Int) * (b:Int) = ((a * b:Nat):Int):=by simp
theorem g_pos {g t g':Nat} (h:0 < g) (e:g = t * g'):0 < g':=by
 rcases Nat.eq_zero_or_pos g' with h0 | h0
 ·
  rw [e,h0] at h; simp at h
 ·
  exact h0
theorem den_sign {s:Bool} {l:List Nat} {D:Nat} (h:M.Right s l) (hz:M.int s l = (D:Int) ∨ (s = false/\l = [])) (hD:0 < D):s = false:=by
 rcases hz with hz | hz
 ·
  exact pos_false h (by rw [hz]; omega)
 ·
  exact hz.1
def SumIs (B:Nat) (w:World) (e:Ending) (N:Int) (D:Nat):Prop :=
 (∃ v,e = .returned (.tuple #[v,.int .i64 0])/\RatIs B w v N D) ∨ (e = .returned (.tuple #[.agg #[.bool false,.slice none 0 0,.bool false,.slice none 0 0],.int .i64 13])/\¬ (N.natAbs < M.W72/\D < M.W72))
theorem set4 {B p:Nat} {w:World} {v:Value} {l:List Nat} (h:New B w v l) (hp:p < B) (x0 x1 x2 x3:Value):New B ((((w.setCell ⟨p,0,none⟩ x0).setCell ⟨p,1,none⟩ x1).setCell ⟨p,2,none⟩ x2).setCell ⟨p,3,none⟩ x3) v l :=
 (((h.other hp _).other hp _).other hp _).other hp _
set_option maxRecDepth 100000 in
set_option maxHeartbeats 8000000 in
theorem sum_q (m n:Bool) (a1 a2 b1 b2:Option Addr) (k1 c1 k2 c2 k3 c3 k4 c4:Nat) (an ad bn bd:List Nat) (w:World) (g oA oB t g':Nat) (N:Int)
  (ha:Sl w (.slice a1 k1 c1) an) (had:Sl w (.slice a2 k2 c2) ad) (hb:Sl w (.slice b1 k3 c3) bn) (hbd:Sl w (.slice b2 k4 c4) bd) (hra:R m an) (hrad:R false ad) (hrb:R n bn) (hrbd:R false bd)
  (par:FM.Par (M.int m an) (M.int n bn) g oA oB) (hg:Nat.gcd (M.val ad) (M.val bd) = g) (hgA:M.val ad = g * oA) (hgB:M.val bd = g * oB)
  (ht:t = Nat.gcd (FM.S (M.int m an) (M.int n bn) oA oB).natAbs g) (ht0:0 < t) (hgt:g = t * g') (hS:FM.S (M.int m an) (M.int n bn) oA oB = t * N) (hD:0 < oA * (g' * oB)) :
  Calls Tryz.prog 99 #[.agg #[.bool m,.slice a1 k1 c1,.bool false,.slice a2 k2 c2],.agg #[.bool n,.slice b1 k3 c3,.bool false,.slice b2 k4 c4]] w fun e w' => Kept w w'/\SumIs w.heap.size w' e N (oA * (g' * oB)):=by
 have HR:Hid (R m an/\R false ad/\R n bn/\R false bd):=⟨hra,hrad,hrb,hrbd⟩
 have HA:Hid (Sl w (.slice a1 k1 c1) an/\Sl w (.slice a2 k2 c2) ad/\Sl w (.slice b1 k3 c3) bn/\Sl w (.slice b2 k4 c4) bd):=⟨ha,had,hb,hbd⟩
 have HP:Hid (FM.Par (M.int m an) (M.int n bn) g oA oB):=par
 have HT0:Hid (t = Nat.gcd (FM.S (M.int m an) (M.int n bn) oA oB).natAbs g/\0 < t/\g = t * g'/\FM.S (M.int m an) (M.int n bn) oA oB = t * N/\0 < oA * (g' * oB)):=⟨ht,ht0,hgt,hS,hD⟩
 have hWA:g * oA < M.W72:=by rw [<- hgA]; exact M.lt_W72 had.bd hrad.1
 have hWB:g * oB < M.W72:=by rw [<- hgB]; exact M.lt_W72 hbd.bd hrbd.1
 have HD:Hid (M.int false ad = ((g * oA:Nat):Int)/\M.int false bd = ((g * oB:Nat):Int)/\g * oA < M.W72/\g * oB < M.W72/\0 < ad.length/\0 < bd.length/\(M.int m an).natAbs < M.W72/\(M.int n bn).natAbs < M.W72):=by
  have e1:M.int false ad = ((g * oA:Nat):Int):=by rw [<- hgA]; simp [M.int]
  have e2:M.int false bd = ((g * oB:Nat):Int):=by rw [<- hgB]; simp [M.int]
  have p1:=Nat.mul_pos par.g0 par.a0
  have p2:=Nat.mul_pos par.g0 par.b0
  exact ⟨e1,e2,hWA,hWB,len_pos (s:=false) (by rw [e1]; omega),len_pos (s:=false) (by rw [e2]; omega),by rw [M.natAbs_int]; exact M.lt_W72 ha.bd hra.1,by rw [M.natAbs_int]; exact M.lt_W72 hb.bd hrb.1⟩
 have HW:Hid ((Int.tmod (M.int m an) (g:Int) * (oB:Int)).natAbs < M.W72/\(Int.tmod (M.int n bn) (g:Int) * (oA:Int)).natAbs < M.W72/\g < M.W72):=by
  refine ⟨FM.mod_mul_lt par.g0 par.b0 (Nat.le_refl _) hWB,FM.mod_mul_lt par.g0 par.a0 (Nat.le_refl _) hWA,?_⟩
  exact Nat.lt_of_le_of_lt (Nat.le_mul_of_pos_right g par.a0) hWA
 obtain ⟨cc,HC0⟩:∃ c:Int,Hid (FM.lOf (FM.rOf (M.int m an) (g * oA)) oB t + FM.lOf (FM.rOf (M.int n bn) (g * oB)) oA t = t * c/\N = (FM.wOf (M.int m an) (g * oA) + FM.wOf (M.int n bn) (g * oB)) * (oA * (g' * oB):Nat) + (FM.pOf (FM.rOf (M.int m an) (g * oA)) oB t + FM.pOf (FM.rOf (M.int n bn) (g * oB)) oA t + c)):=FM.parts par ht0 hgt hS
 have HGG:Hid (Nat.gcd (M.val ad) (M.val bd) = g):=hg
 clear ha had hb hbd hra hrad hrb hrbd par hg hgA hgB ht ht0 hgt hS hD hWA hWB
 have K4:∀ x y t u,Kept w ((((w.alloc x).alloc y).alloc t).alloc u):=fun x y t u => ((((Kept.refl w).alloc x).alloc y).alloc t).alloc u
 go_enter Tryz.func99,Tryz.ntmps99
 go_wp2_with fail
 refine (gcd_r false false (.slice a2 k2 c2) (.slice b2 k4 c4) ad bd _ (HA.out.2.1.kept (K4 _ _ _ _)) (HA.out.2.2.2.kept (K4 _ _ _ _)) HR.out.2.1 HR.out.2.2.2).mono ?_
 rintro e w1 ⟨hk,sg,ag,kg,cg,lg,rfl,ng,rg,vg⟩
 rw [HGG.out] at vg
 obtain rfl:sg = false:=pos_false rg (by rw [vg]; have:=HP.out.g0; omega)
 have HG:Hid (M.Right false lg/\M.int false lg = (g:Int)/\0 < lg.length):=⟨rg,vg,len_pos (s:=false) (by rw [vg]; have:=HP.out.g0; omega)⟩
 have HV:Hid (M.val lg = g):=by show M.val lg = g; have h:=vg; simp only [M.int] at h; simp at h; omega
 have HE:Hid ((oA:Int) * M.int false lg = M.int false ad/\(oB:Int) * M.int false lg = M.int false bd):=by
  show _/\_
  rw [vg,HD.out.1,HD.out.2.1]
  constructor <;> simp [Int.mul_comm]
 have rA:=(RRow.alloc w (.bool m) (.slice a1 k1 c1) (.bool false) (.slice a2 k2 c2))
 have rB:=(RRow.alloc (w.alloc (.cells #[.bool m,.slice a1 k1 c1,.bool false,.slice a2 k2 c2] 29)) (.bool n) (.slice b1 k3 c3) (.bool false) (.slice b2 k4 c4))
 have rZ:=(RRow.alloc ((w.alloc (.cells #[.bool m,.slice a1 k1 c1,.bool false,.slice a2 k2 c2] 29)).alloc (.cells #[.bool n,.slice b1 k3 c3,.bool false,.slice b2 k4 c4] 29)) (.bool false) (.slice none 0 0) (.bool false) (.slice none 0 0))
 have rK:=(Flag.alloc (((w.alloc (.cells #[.bool m,.slice a1 k1 c1,.bool false,.slice a2 k2 c2] 29)).alloc (.cells #[.bool n,.slice b1 k3 c3,.bool false,.slice b2 k4 c4] 29)).alloc (.cells #[.bool false,.slice none 0 0,.bool false,.slice none 0 0] 29)) false)
 have rA:=rA.kept (((((Kept.refl _).alloc _).alloc _).alloc _).trans hk)
 have rB:=rB.kept ((((Kept.refl _).alloc _).alloc _).trans hk)
 have rZ:=rZ.kept (((Kept.refl _).alloc _).trans hk)
 have rK:=rK.kept hk
 simp only [World.size_alloc] at rB rZ rK
 have hsz:=hk.size
 simp at hsz
 have hKw:=(K4 _ _ _ _).trans hk
 have HN:Hid (RRow w1 w.heap.size (.bool m) (.slice a1 k1 c1) (.bool false) (.slice a2 k2 c2)/\RRow w1 (w.heap.size + 1) (.bool n) (.slice b1 k3 c3) (.bool false) (.slice b2 k4 c4)/\RRow w1 (w.heap.size + 1 + 1) (.bool false) (.slice none 0 0) (.bool false) (.slice none 0 0)/\Flag w1 (w.heap.size + 1 + 1 + 1) false/\Kept w w1/\New w.heap.size w1 (.slice ag kg cg) lg/\w.heap.size + 1 + 1 + 1 + 1<=w1.heap.size):=⟨rA,rB,rZ,rK,hKw,ng.mono (by simp; omega),hsz⟩
 clear hk rg vg ng rA rB rZ rK hsz hKw K4
 go_upto_region 3 with fail
 have hK:Kept w1 (w1.alloc (.cells #[.bool false,.slice ag kg cg] 27)):=(Kept.refl w1).alloc _
 have hY:=box_kept (Kept.refl (w1.alloc (.cells #[.bool false,.slice ag kg cg] 27)))
 have hZ:(w1.alloc (.cells #[.bool false,.slice ag kg cg] 27)).heap.size = w1.heap.size + 1:=by simp
 generalize w1.alloc (.cells #[.bool false,.slice ag kg cg] 27) = W at hK hY hZ ⊢
 obtain ⟨hy0,hy1⟩:=hY
 obtain ⟨i1,i2,i3,i4,i5,i6,i7⟩:=HN.out
 obtain ⟨p7,hp7⟩:∃ p,p = w1.heap.size:=⟨_,rfl⟩
 rw [<- hp7] at hy0 hy1 hZ i7 ⊢
 obtain ⟨kb,hkb⟩:∃ p,p = w.heap.size + 1 + 1 + 1:=⟨_,rfl⟩
 rw [<- hkb] at i4 ⊢
 obtain ⟨p4,hp4⟩:∃ p,p = w.heap.size + 1 + 1:=⟨_,rfl⟩
 rw [<- hp4] at i3 ⊢
 obtain ⟨p3,hp3⟩:∃ p,p = w.heap.size + 1:=⟨_,rfl⟩
 rw [<- hp3] at i2 ⊢
 obtain ⟨p2,hp2⟩:∃ p,p = w.heap.size:=⟨_,rfl⟩
 rw [<- hp2] at i1 ⊢
 have hKW:=i5.trans hK
 have hF:Flag W kb false:=i4.kept hK
 have r1:=i1.kept hK
 have r2:=i2.kept hK
 have A:=RBox.mk hF (show p2 ≠ kb by omega) r1.c0 r1.c1 r1.c2 r1.c3 (HA.out.1.kept hKW) (HA.out.2.1.kept hKW)
 have B:=RBox.mk hF (show p3 ≠ kb by omega) r2.c0 r2.c1 r2.c2 r2.c3 (HA.out.2.2.1.kept hKW) (HA.out.2.2.2.kept hKW)
 have B7:Box kb W p7 false ag kg cg lg:=Box.mk hF (by omega) hy0 hy1 (i6.kept hK).sl
 have H4:Hid (RRow W p4 (.bool false) (.slice none 0 0) (.bool false) (.slice none 0 0)/\Kept w W/\w.heap.size<=kb/\p4 < kb/\p4 < W.heap.size/\w.heap.size<=p4/\w.heap.size<=W.heap.size):=⟨i3.kept hK,hKW,by omega,by omega,by omega,by omega,by omega⟩
 have KK:KeptK kb W W:=KeptK.refl _ _
 clear hK hy0 hy1 hZ i1 i2 i3 i4 i5 i6 i7 hp7 hkb hp4 hp3 hp2 hKW r1 r2 HN HA HGG
 go_cut [8,9] (fun s8 s9 wc => ∃ (p8 p9:Nat) (sA sB:Bool) (aA aB:Option Addr) (kA cA kB cB:Nat),s8 = .pointer (some ⟨p8,0,none⟩)/\s9 = .pointer (some ⟨p9,0,none⟩)/\Hid (KeptK kb W wc/\Flag wc kb false/\∃ (lA lB:List Nat),Box kb wc p8 sA aA kA cA lA/\Box kb wc p9 sB aB kB cB lB/\M.Right sA lA/\M.Right sB lB/\M.int sA lA = (oA:Int)/\M.int sB lB = (oB:Int)))
 case first =>
  have KT:KeptK kb W W.drew:=KeptK.of (Kept.refl _).drew
  have hF:Flag W.drew kb false:=Flag.kept hF (Kept.refl _).drew
  have sS:=hidS (fun (V:World) (K:KeptK kb W V) => And.intro (A.c2 K) (And.intro (A.c3 K) (And.intro (B7.c0 K) (And.intro (B7.c1 K) (And.intro (B.c2 K) (B.c3 K))))))
  refine wp_region_held_drew (S:=fun w' => w'.cell? ⟨p2,2,none⟩ = some (.bool false)/\w'.cell? ⟨p2,3,none⟩ = some (.slice a2 k2 c2)/\w'.cell? ⟨p7,0,none⟩ = some (.bool false)/\w'.cell? ⟨p7,1,none⟩ = some (.slice ag kg cg)/\w'.cell? ⟨p3,2,none⟩ = some (.bool false)/\w'.cell? ⟨p3,3,none⟩ = some (.slice b2 k4 c4)) (by kernel_rfl) (sS.out _ KT) (fun hHeld => ?_)
  generalize W.drew = Wd at KT hF hHeld ⊢
  refine wk 0 hHeld ?_
  refine wk 1 hHeld ?_
  refine wk 2 hHeld ?_
  refine wk 4 hHeld ?_
  refine wk 5 hHeld ?_
  refine wk 6 hHeld ?_
  refine wpAnyH_ready (rs:=[3,8,9]) (by kernel_rfl) (by simp) ?_
  refine AllReadyH.cons rfl (fun K hK => ?_) ?_
  ·
   go_simp
   refine (exact_r false false (.slice a2 k2 c2) (.slice ag kg cg) ad lg (oA:Int) _ (A.sd KT) (B7.sl KT) HR.out.2.1 (R.of_right HG.out.1) HG.out.2.2 HE.out.1).mono ?_
   rintro e w3 ⟨hk3,sA,aA,kA,cA,lA,rfl,n8,r8,v8⟩
   have H8:=hid (And.intro r8 v8)
   clear r8 v8
   refine hK.out _ _ (sS.out _ (KT.then hk3)) (fun hHeld => ?_)
   clear hK K
   have KT:=(KT.then hk3)
   have hF:=Flag.kept hF hk3
   refine wpAnyH_ready (rs:=[7,8,9]) (by kernel_rfl) (by simp) ?_
   refine AllReadyH.cons rfl (fun K hK => ?_) ?_
   ·
    go_simp
    refine (exact_r false false (.slice b2 k4 c4) (.slice ag kg cg) bd lg (oB:Int) _ (B.sd KT) (B7.sl KT) HR.out.2.2.2 (R.of_right HG.out.1) HG.out.2.2 HE.out.2).mono ?_
    rintro e w4 ⟨hk4,sB,aB,kB,cB,lB,rfl,n9,r9,v9⟩
    have H9:=hid (And.intro r9 v9)
    clear r9 v9
    refine hK.out _ _ (sS.out _ (KT.then hk4)) (fun hHeld => ?_)
    clear hK K
    have n8:=New.kept n8 hk4
    have KT:=(KT.then hk4)
    have hF:=Flag.kept hF hk4
    refine wpAnyH_ready (rs:=[8,9]) (by kernel_rfl) (by simp) ?_
    refine AllReadyH.cons rfl (fun K hK => ?_) ?_
    ·
     go_simp
     refine hK.out _ _ (sS.out _ (KT.then ((Kept.refl w4).alloc _))) (fun hHeld => ?_)
     clear hK K
     have zp8:ZBox (w4.alloc (.cells #[.bool false,.slice none 0 0] 27)) w4.heap.size:=ZBox.alloc _
     have hkp8:w4.heap.size ≠ kb:=by have:=hF.lt; omega
     have hgp8:W.heap.size<=w4.heap.size:=KT.size
     have n8:=New.kept n8 ((Kept.refl w4).alloc (.cells #[.bool false,.slice none 0 0] 27))
     have n9:=New.kept n9 ((Kept.refl w4).alloc (.cells #[.bool false,.slice none 0 0] 27))
     have KT:=KT.then ((Kept.refl w4).alloc (.cells #[.bool false,.slice none 0 0] 27))
     have hF:=Flag.kept hF ((Kept.refl w4).alloc (.cells #[.bool false,.slice none 0 0] 27))
     obtain ⟨p8,hpp8⟩:∃ p,p = w4.heap.size:=⟨_,rfl⟩
     rw [<- hpp8] at zp8 hkp8 hgp8  ⊢
     generalize w4.alloc (.cells #[.bool false,.slice none 0 0] 27) = Wa8 at zp8  n8 n9 KT hF hHeld ⊢
     clear hpp8
     refine rdy 9 fun K hK => ?_
     go_simp
     refine hK.out _ _ (sS.out _ (KT.then ((Kept.refl Wa8).alloc _))) (fun hHeld => ?_)
     clear hK K
     have zp9:ZBox (Wa8.alloc (.cells #[.bool false,.slice none 0 0] 27)) Wa8.heap.size:=ZBox.alloc _
     have hkp9:Wa8.heap.size ≠ kb:=by have:=hF.lt; omega
     have hgp9:W.heap.size<=Wa8.heap.size:=KT.size
     have dp9p8:¬ (Wa8.heap.size = p8):=by have:=zp8.lt; omega
     have dp8p9:¬ (p8 = Wa8.heap.size):=by have:=zp8.lt; omega
     have zp8:=zp8.kept ((Kept.refl Wa8).alloc (.cells #[.bool false,.slice none 0 0] 27))
     have n8:=New.kept n8 ((Kept.refl Wa8).alloc (.cells #[.bool false,.slice none 0 0] 27))
     have n9:=New.kept n9 ((Kept.refl Wa8).alloc (.cells #[.bool false,.slice none 0 0] 27))
     have KT:=KT.then ((Kept.refl Wa8).alloc (.cells #[.bool false,.slice none 0 0] 27))
     have hF:=Flag.kept hF ((Kept.refl Wa8).alloc (.cells #[.bool false,.slice none 0 0] 27))
     obtain ⟨p9,hpp9⟩:∃ p,p = Wa8.heap.size:=⟨_,rfl⟩
     rw [<- hpp9] at zp9 hkp9 hgp9 dp9p8 dp8p9 ⊢
     generalize Wa8.alloc (.cells #[.bool false,.slice none 0 0] 27) = Wa9 at zp9 zp8 n8 n9 KT hF hHeld ⊢
     clear hpp9
     have cp80:=zp8.c0
     have cp81:=zp8.c1
     have gp80:=zp8.fz 0
     have gp81:=zp8.fz 1
     refine rdy 10 fun K hK => ?_
     go_simp
     refine hK.out _ _ (sS.out _ (KT.set2 hgp8 _ _)) (fun hHeld => ?_)
     clear hK K
     have ep8:=set2_at (x:=(.bool sA)) (y:=(.slice aA kA cA)) cp80 cp81
     have n8:=New.box2 n8 zp8 (.bool sA) (.slice aA kA cA)
     have n9:=New.box2 n9 zp8 (.bool sA) (.slice aA kA cA)
     have KT:=KT.set2 hgp8 (.bool sA) (.slice aA kA cA)
     have hF:=Flag.set2 hF hkp8 (.bool sA) (.slice aA kA cA)
     have zp9:=zp9.far dp9p8 (.bool sA) (.slice aA kA cA)
     clear cp80 cp81 gp80 gp81
     generalize ((Wa9.setCell ⟨p8,0,none⟩ (.bool sA)).setCell ⟨p8,1,none⟩ (.slice aA kA cA)) = Ws0 at ep8 zp9 n8 n9 KT hF hHeld ⊢
     have cp90:=zp9.c0
     have cp91:=zp9.c1
     have gp90:=zp9.fz 0
     have gp91:=zp9.fz 1
     refine rdy 11 fun K hK => ?_
     go_simp
     refine hK.out _ _ (sS.out _ (KT.set2 hgp9 _ _)) (fun hHeld => ?_)
     clear hK K
     have ep9:=set2_at (x:=(.bool sB)) (y:=(.slice aB kB cB)) cp90 cp91
     have ep8:=And.intro (set2_far (x:=(.bool sB)) (y:=(.slice aB kB cB)) ep8.1 dp9p8) (set2_far (x:=(.bool sB)) (y:=(.slice aB kB cB)) ep8.2 dp9p8)
     have n8:=New.box2 n8 zp9 (.bool sB) (.slice aB kB cB)
     have n9:=New.box2 n9 zp9 (.bool sB) (.slice aB kB cB)
     have KT:=KT.set2 hgp9 (.bool sB) (.slice aB kB cB)
     have hF:=Flag.set2 hF hkp9 (.bool sB) (.slice aB kB cB)
     clear cp90 cp91 gp90 gp91
     generalize ((Ws0.setCell ⟨p9,0,none⟩ (.bool sB)).setCell ⟨p9,1,none⟩ (.slice aB kB cB)) = Ws1 at ep8 ep9  n8 n9 KT hF hHeld ⊢
     have bp8:=Box.mk hF hkp8 ep8.1 ep8.2 n8.sl
     have bp9:=Box.mk hF hkp9 ep9.1 ep9.2 n9.sl
     refine dn ?_
     go_wp2_with fail
     go_meet
     case rel => exact ⟨p8,p9,sA,sB,aA,aB,kA,cA,kB,cB,rfl,rfl,KT,hF,lA,lB,bp8,bp9,H8.out.1,H9.out.1,H8.out.2,H9.out.2⟩
    refine AllReadyH.cons rfl (fun K hK => ?_) AllReadyH.nil
    go_simp
    refine hK.out _ _ (sS.out _ (KT.then ((Kept.refl w4).alloc _))) (fun hHeld => ?_)
    clear hK K
    have zp9:ZBox (w4.alloc (.cells #[.bool false,.slice none 0 0] 27)) w4.heap.size:=ZBox.alloc _
    have hkp9:w4.heap.size ≠ kb:=by have:=hF.lt; omega
    have hgp9:W.heap.size<=w4.heap.size:=KT.size
    have n8:=New.kept n8 ((Kept.refl w4).alloc (.cells #[.bool false,.slice none 0 0] 27))
    have n9:=New.kept n9 ((Kept.refl w4).alloc (.cells #[.bool false,.slice none 0 0] 27))
    have KT:=KT.then ((Kept.refl w4).alloc (.cells #[.bool false,.slice none 0 0] 27))
    have hF:=Flag.kept hF ((Kept.refl w4).alloc (.cells #[.bool false,.slice none 0 0] 27))
    obtain ⟨p9,hpp9⟩:∃ p,p = w4.heap.size:=⟨_,rfl⟩
    rw [<- hpp9] at zp9 hkp9 hgp9  ⊢
    generalize w4.alloc (.cells #[.bool false,.slice none 0 0] 27) = Wa9 at zp9  n8 n9 KT hF hHeld ⊢
    clear hpp9
    refine rdy 8 fun K hK => ?_
    go_simp
    refine hK.out _ _ (sS.out _ (KT.then ((Kept.refl Wa9).alloc _))) (fun hHeld => ?_)
    clear hK K
    have zp8:ZBox (Wa9.alloc (.cells #[.bool false,.slice none 0 0] 27)) Wa9.heap.size:=ZBox.alloc _
    have hkp8:Wa9.heap.size ≠ kb:=by have:=hF.lt; omega
    have hgp8:W.heap.size<=Wa9.heap.size:=KT.size
    have dp8p9:¬ (Wa9.heap.size = p9):=by have:=zp9.lt; omega
    have dp9p8:¬ (p9 = Wa9.heap.size):=by have:=zp9.lt; omega
    have zp9:=zp9.kept ((Kept.refl Wa9).alloc (.cells #[.bool false,.slice none 0 0] 27))
    have n8:=New.kept n8 ((Kept.refl Wa9).alloc (.cells #[.bool false,.slice none 0 0] 27))
    have n9:=New.kept n9 ((Kept.refl Wa9).alloc (.cells #[.bool false,.slice none 0 0] 27))
    have KT:=KT.then ((Kept.refl Wa9).alloc (.cells #[.bool false,.slice none 0 0] 27))
    have hF:=Flag.kept hF ((Kept.refl Wa9).alloc (.cells #[.bool false,.slice none 0 0] 27))
    obtain ⟨p8,hpp8⟩:∃ p,p = Wa9.heap.size:=⟨_,rfl⟩
    rw [<- hpp8] at zp8 hkp8 hgp8 dp8p9 dp9p8 ⊢
    generalize Wa9.alloc (.cells #[.bool false,.slice none 0 0] 27) = Wa8 at zp8 zp9 n8 n9 KT hF hHeld ⊢
    clear hpp8
    have cp80:=zp8.c0
    have cp81:=zp8.c1
    have gp80:=zp8.fz 0
    have gp81:=zp8.fz 1
    refine rdy 10 fun K hK => ?_
    go_simp
    refine hK.out _ _ (sS.out _ (KT.set2 hgp8 _ _)) (fun hHeld => ?_)
    clear hK K
    have ep8:=set2_at (x:=(.bool sA)) (y:=(.slice aA kA cA)) cp80 cp81
    have n8:=New.box2 n8 zp8 (.bool sA) (.slice aA kA cA)
    have n9:=New.box2 n9 zp8 (.bool sA) (.slice aA kA cA)
    have KT:=KT.set2 hgp8 (.bool sA) (.slice aA kA cA)
    have hF:=Flag.set2 hF hkp8 (.bool sA) (.slice aA kA cA)
    have zp9:=zp9.far dp9p8 (.bool sA) (.slice aA kA cA)
    clear cp80 cp81 gp80 gp81
    generalize ((Wa8.setCell ⟨p8,0,none⟩ (.bool sA)).setCell ⟨p8,1,none⟩ (.slice aA kA cA)) = Ws0 at ep8 zp9 n8 n9 KT hF hHeld ⊢
    have cp90:=zp9.c0
    have cp91:=zp9.c1
    have gp90:=zp9.fz 0
    have gp91:=zp9.fz 1
    refine rdy 11 fun K hK => ?_
    go_simp
    refine hK.out _ _ (sS.out _ (KT.set2 hgp9 _ _)) (fun hHeld => ?_)
    clear hK K
    have ep9:=set2_at (x:=(.bool sB)) (y:=(.slice aB kB cB)) cp90 cp91
    have ep8:=And.intro (set2_far (x:=(.bool sB)) (y:=(.slice aB kB cB)) ep8.1 dp9p8) (set2_far (x:=(.bool sB)) (y:=(.slice aB kB cB)) ep8.2 dp9p8)
    have n8:=New.box2 n8 zp9 (.bool sB) (.slice aB kB cB)
    have n9:=New.box2 n9 zp9 (.bool sB) (.slice aB kB cB)
    have KT:=KT.set2 hgp9 (.bool sB) (.slice aB kB cB)
    have hF:=Flag.set2 hF hkp9 (.bool sB) (.slice aB kB cB)
    clear cp90 cp91 gp90 gp91
    generalize ((Ws0.setCell ⟨p9,0,none⟩ (.bool sB)).setCell ⟨p9,1,none⟩ (.slice aB kB cB)) = Ws1 at ep8 ep9  n8 n9 KT hF hHeld ⊢
    have bp8:=Box.mk hF hkp8 ep8.1 ep8.2 n8.sl
    have bp9:=Box.mk hF hkp9 ep9.1 ep9.2 n9.sl
    refine dn ?_
    go_wp2_with fail
    go_meet
    case rel => exact ⟨p8,p9,sA,sB,aA,aB,kA,cA,kB,cB,rfl,rfl,KT,hF,lA,lB,bp8,bp9,H8.out.1,H9.out.1,H8.out.2,H9.out.2⟩
   refine AllReadyH.cons rfl (fun K hK => ?_) ?_
   ·
    go_simp
    refine hK.out _ _ (sS.out _ (KT.then ((Kept.refl w3).alloc _))) (fun hHeld => ?_)
    clear hK K
    have zp8:ZBox (w3.alloc (.cells #[.bool false,.slice none 0 0] 27)) w3.heap.size:=ZBox.alloc _
    have hkp8:w3.heap.size ≠ kb:=by have:=hF.lt; omega
    have hgp8:W.heap.size<=w3.heap.size:=KT.size
    have n8:=New.kept n8 ((Kept.refl w3).alloc (.cells #[.bool false,.slice none 0 0] 27))
    have KT:=KT.then ((Kept.refl w3).alloc (.cells #[.bool false,.slice none 0 0] 27))
    have hF:=Flag.kept hF ((Kept.refl w3).alloc (.cells #[.bool false,.slice none 0 0] 27))
    obtain ⟨p8,hpp8⟩:∃ p,p = w3.heap.size:=⟨_,rfl⟩
    rw [<- hpp8] at zp8 hkp8 hgp8  ⊢
    generalize w3.alloc (.cells #[.bool false,.slice none 0 0] 27) = Wa8 at zp8  n8 KT hF hHeld ⊢
    clear hpp8
    refine wpAnyH_ready (rs:=[7,9]) (by kernel_rfl) (by simp) ?_
    refine AllReadyH.cons rfl (fun K hK => ?_) ?_
    ·
     go_simp
     refine (exact_r false false (.slice b2 k4 c4) (.slice ag kg cg) bd lg (oB:Int) _ (B.sd KT) (B7.sl KT) HR.out.2.2.2 (R.of_right HG.out.1) HG.out.2.2 HE.out.2).mono ?_
     rintro e w4 ⟨hk4,sB,aB,kB,cB,lB,rfl,n9,r9,v9⟩
     have H9:=hid (And.intro r9 v9)
     clear r9 v9
     refine hK.out _ _ (sS.out _ (KT.then hk4)) (fun hHeld => ?_)
     clear hK K
     have zp8:=zp8.kept hk4
     have n8:=New.kept n8 hk4
     have KT:=(KT.then hk4)
     have hF:=Flag.kept hF hk4
     refine rdy 9 fun K hK => ?_
     go_simp
     refine hK.out _ _ (sS.out _ (KT.then ((Kept.refl w4).alloc _))) (fun hHeld => ?_)
     clear hK K
     have zp9:ZBox (w4.alloc (.cells #[.bool false,.slice none 0 0] 27)) w4.heap.size:=ZBox.alloc _
     have hkp9:w4.heap.size ≠ kb:=by have:=hF.lt; omega
     have hgp9:W.heap.size<=w4.heap.size:=KT.size
     have dp9p8:¬ (w4.heap.size = p8):=by have:=zp8.lt; omega
     have dp8p9:¬ (p8 = w4.heap.size):=by have:=zp8.lt; omega
     have zp8:=zp8.kept ((Kept.refl w4).alloc (.cells #[.bool false,.slice none 0 0] 27))
     have n8:=New.kept n8 ((Kept.refl w4).alloc (.cells #[.bool false,.slice none 0 0] 27))
     have n9:=New.kept n9 ((Kept.refl w4).alloc (.cells #[.bool false,.slice none 0 0] 27))
     have KT:=KT.then ((Kept.refl w4).alloc (.cells #[.bool false,.slice none 0 0] 27))
     have hF:=Flag.kept hF ((Kept.refl w4).alloc (.cells #[.bool false,.slice none 0 0] 27))
     obtain ⟨p9,hpp9⟩:∃ p,p = w4.heap.size:=⟨_,rfl⟩
     rw [<- hpp9] at zp9 hkp9 hgp9 dp9p8 dp8p9 ⊢
     generalize w4.alloc (.cells #[.bool false,.slice none 0 0] 27) = Wa9 at zp9 zp8 n8 n9 KT hF hHeld ⊢
     clear hpp9
     have cp80:=zp8.c0
     have cp81:=zp8.c1
     have gp80:=zp8.fz 0
     have gp81:=zp8.fz 1
     refine rdy 10 fun K hK => ?_
     go_simp
     refine hK.out _ _ (sS.out _ (KT.set2 hgp8 _ _)) (fun hHeld => ?_)
     clear hK K
     have ep8:=set2_at (x:=(.bool sA)) (y:=(.slice aA kA cA)) cp80 cp81
     have n8:=New.box2 n8 zp8 (.bool sA) (.slice aA kA cA)
     have n9:=New.box2 n9 zp8 (.bool sA) (.slice aA kA cA)
     have KT:=KT.set2 hgp8 (.bool sA) (.slice aA kA cA)
     have hF:=Flag.set2 hF hkp8 (.bool sA) (.slice aA kA cA)
     have zp9:=zp9.far dp9p8 (.bool sA) (.slice aA kA cA)
     clear cp80 cp81 gp80 gp81
     generalize ((Wa9.setCell ⟨p8,0,none⟩ (.bool sA)).setCell ⟨p8,1,none⟩ (.slice aA kA cA)) = Ws0 at ep8 zp9 n8 n9 KT hF hHeld ⊢
     have cp90:=zp9.c0
     have cp91:=zp9.c1
     have gp90:=zp9.fz 0
     have gp91:=zp9.fz 1
     refine rdy 11 fun K hK => ?_
     go_simp
     refine hK.out _ _ (sS.out _ (KT.set2 hgp9 _ _)) (fun hHeld => ?_)
     clear hK K
     have ep9:=set2_at (x:=(.bool sB)) (y:=(.slice aB kB cB)) cp90 cp91
     have ep8:=And.intro (set2_far (x:=(.bool sB)) (y:=(.slice aB kB cB)) ep8.1 dp9p8) (set2_far (x:=(.bool sB)) (y:=(.slice aB kB cB)) ep8.2 dp9p8)
     have n8:=New.box2 n8 zp9 (.bool sB) (.slice aB kB cB)
     have n9:=New.box2 n9 zp9 (.bool sB) (.slice aB kB cB)
     have KT:=KT.set2 hgp9 (.bool sB) (.slice aB kB cB)
     have hF:=Flag.set2 hF hkp9 (.bool sB) (.slice aB kB cB)
     clear cp90 cp91 gp90 gp91
     generalize ((Ws0.setCell ⟨p9,0,none⟩ (.bool sB)).setCell ⟨p9,1,none⟩ (.slice aB kB cB)) = Ws1 at ep8 ep9  n8 n9 KT hF hHeld ⊢
     have bp8:=Box.mk hF hkp8 ep8.1 ep8.2 n8.sl
     have bp9:=Box.mk hF hkp9 ep9.1 ep9.2 n9.sl
     refine dn ?_
     go_wp2_with fail
     go_meet
     case rel => exact ⟨p8,p9,sA,sB,aA,aB,kA,cA,kB,cB,rfl,rfl,KT,hF,lA,lB,bp8,bp9,H8.out.1,H9.out.1,H8.out.2,H9.out.2⟩
    refine AllReadyH.cons rfl (fun K hK => ?_) AllReadyH.nil
    go_simp
    refine hK.out _ _ (sS.out _ (KT.then ((Kept.refl Wa8).alloc _))) (fun hHeld => ?_)
    clear hK K
    have zp9:ZBox (Wa8.alloc (.cells #[.bool false,.slice none 0 0] 27)) Wa8.heap.size:=ZBox.alloc _
    have hkp9:Wa8.heap.size ≠ kb:=by have:=hF.lt; omega
    have hgp9:W.heap.size<=Wa8.heap.size:=KT.size
    have dp9p8:¬ (Wa8.heap.size = p8):=by have:=zp8.lt; omega
    have dp8p9:¬ (p8 = Wa8.heap.size):=by have:=zp8.lt; omega
    have zp8:=zp8.kept ((Kept.refl Wa8).alloc (.cells #[.bool false,.slice none 0 0] 27))
    have n8:=New.kept n8 ((Kept.refl Wa8).alloc (.cells #[.bool false,.slice none 0 0] 27))
    have KT:=KT.then ((Kept.refl Wa8).alloc (.cells #[.bool false,.slice none 0 0] 27))
    have hF:=Flag.kept hF ((Kept.refl Wa8).alloc (.cells #[.bool false,.slice none 0 0] 27))
    obtain ⟨p9,hpp9⟩:∃ p,p = Wa8.heap.size:=⟨_,rfl⟩
    rw [<- hpp9] at zp9 hkp9 hgp9 dp9p8 dp8p9 ⊢
    generalize Wa8.alloc (.cells #[.bool false,.slice none 0 0] 27) = Wa9 at zp9 zp8 n8 KT hF hHeld ⊢
    clear hpp9
    refine rdy 7 fun K hK => ?_
    go_simp
    refine (exact_r false false (.slice b2 k4 c4) (.slice ag kg cg) bd lg (oB:Int) _ (B.sd KT) (B7.sl KT) HR.out.2.2.2 (R.of_right HG.out.1) HG.out.2.2 HE.out.2).mono ?_
    rintro e w4 ⟨hk4,sB,aB,kB,cB,lB,rfl,n9,r9,v9⟩
    have H9:=hid (And.intro r9 v9)
    clear r9 v9
    refine hK.out _ _ (sS.out _ (KT.then hk4)) (fun hHeld => ?_)
    clear hK K
    have zp8:=zp8.kept hk4
    have zp9:=zp9.kept hk4
    have n8:=New.kept n8 hk4
    have KT:=(KT.then hk4)
    have hF:=Flag.kept hF hk4
    have cp80:=zp8.c0
    have cp81:=zp8.c1
    have gp80:=zp8.fz 0
    have gp81:=zp8.fz 1
    refine rdy 10 fun K hK => ?_
    go_simp
    refine hK.out _ _ (sS.out _ (KT.set2 hgp8 _ _)) (fun hHeld => ?_)
    clear hK K
    have ep8:=set2_at (x:=(.bool sA)) (y:=(.slice aA kA cA)) cp80 cp81
    have n8:=New.box2 n8 zp8 (.bool sA) (.slice aA kA cA)
    have n9:=New.box2 n9 zp8 (.bool sA) (.slice aA kA cA)
    have KT:=KT.set2 hgp8 (.bool sA) (.slice aA kA cA)
    have hF:=Flag.set2 hF hkp8 (.bool sA) (.slice aA kA cA)
    have zp9:=zp9.far dp9p8 (.bool sA) (.slice aA kA cA)
    clear cp80 cp81 gp80 gp81
    generalize ((w4.setCell ⟨p8,0,none⟩ (.bool sA)).setCell ⟨p8,1,none⟩ (.slice aA kA cA)) = Ws0 at ep8 zp9 n8 n9 KT hF hHeld ⊢
    have cp90:=zp9.c0
    have cp91:=zp9.c1
    have gp90:=zp9.fz 0
    have gp91:=zp9.fz 1
    refine rdy 11 fun K hK => ?_
    go_simp
    refine hK.out _ _ (sS.out _ (KT.set2 hgp9 _ _)) (fun hHeld => ?_)
    clear hK K
    have ep9:=set2_at (x:=(.bool sB)) (y:=(.slice aB kB cB)) cp90 cp91
    have ep8:=And.intro (set2_far (x:=(.bool sB)) (y:=(.slice aB kB cB)) ep8.1 dp9p8) (set2_far (x:=(.bool sB)) (y:=(.slice aB kB cB)) ep8.2 dp9p8)
    have n8:=New.box2 n8 zp9 (.bool sB) (.slice aB kB cB)
    have n9:=New.box2 n9 zp9 (.bool sB) (.slice aB kB cB)
    have KT:=KT.set2 hgp9 (.bool sB) (.slice aB kB cB)
    have hF:=Flag.set2 hF hkp9 (.bool sB) (.slice aB kB cB)
    clear cp90 cp91 gp90 gp91
    generalize ((Ws0.setCell ⟨p9,0,none⟩ (.bool sB)).setCell ⟨p9,1,none⟩ (.slice aB kB cB)) = Ws1 at ep8 ep9  n8 n9 KT hF hHeld ⊢
    have bp8:=Box.mk hF hkp8 ep8.1 ep8.2 n8.sl
    have bp9:=Box.mk hF hkp9 ep9.1 ep9.2 n9.sl
    refine dn ?_
    go_wp2_with fail
    go_meet
    case rel => exact ⟨p8,p9,sA,sB,aA,aB,kA,cA,kB,cB,rfl,rfl,KT,hF,lA,lB,bp8,bp9,H8.out.1,H9.out.1,H8.out.2,H9.out.2⟩
   refine AllReadyH.cons rfl (fun K hK => ?_) AllReadyH.nil
   go_simp
   refine hK.out _ _ (sS.out _ (KT.then ((Kept.refl w3).alloc _))) (fun hHeld => ?_)
   clear hK K
   have zp9:ZBox (w3.alloc (.cells #[.bool false,.slice none 0 0] 27)) w3.heap.size:=ZBox.alloc _
   have hkp9:w3.heap.size ≠ kb:=by have:=hF.lt; omega
   have hgp9:W.heap.size<=w3.heap.size:=KT.size
   have n8:=New.kept n8 ((Kept.refl w3).alloc (.cells #[.bool false,.slice none 0 0] 27))
   have KT:=KT.then ((Kept.refl w3).alloc (.cells #[.bool false,.slice none 0 0] 27))
   have hF:=Flag.kept hF ((Kept.refl w3).alloc (.cells #[.bool false,.slice none 0 0] 27))
   obtain ⟨p9,hpp9⟩:∃ p,p = w3.heap.size:=⟨_,rfl⟩
   rw [<- hpp9] at zp9 hkp9 hgp9  ⊢
   generalize w3.alloc (.cells #[.bool false,.slice none 0 0] 27) = Wa9 at zp9  n8 KT hF hHeld ⊢
   clear hpp9
   refine wpAnyH_ready (rs:=[7,8]) (by kernel_rfl) (by simp) ?_
   refine AllReadyH.cons rfl (fun K hK => ?_) ?_
   ·
    go_simp
    refine (exact_r false false (.slice b2 k4 c4) (.slice ag kg cg) bd lg (oB:Int) _ (B.sd KT) (B7.sl KT) HR.out.2.2.2 (R.of_right HG.out.1) HG.out.2.2 HE.out.2).mono ?_
    rintro e w4 ⟨hk4,sB,aB,kB,cB,lB,rfl,n9,r9,v9⟩
    have H9:=hid (And.intro r9 v9)
    clear r9 v9
    refine hK.out _ _ (sS.out _ (KT.then hk4)) (fun hHeld => ?_)
    clear hK K
    have zp9:=zp9.kept hk4
    have n8:=New.kept n8 hk4
    have KT:=(KT.then hk4)
    have hF:=Flag.kept hF hk4
    refine rdy 8 fun K hK => ?_
    go_simp
    refine hK.out _ _ (sS.out _ (KT.then ((Kept.refl w4).alloc _))) (fun hHeld => ?_)
    clear hK K
    have zp8:ZBox (w4.alloc (.cells #[.bool false,.slice none 0 0] 27)) w4.heap.size:=ZBox.alloc _
    have hkp8:w4.heap.size ≠ kb:=by have:=hF.lt; omega
    have hgp8:W.heap.size<=w4.heap.size:=KT.size
    have dp8p9:¬ (w4.heap.size = p9):=by have:=zp9.lt; omega
    have dp9p8:¬ (p9 = w4.heap.size):=by have:=zp9.lt; omega
    have zp9:=zp9.kept ((Kept.refl w4).alloc (.cells #[.bool false,.slice none 0 0] 27))
    have n8:=New.kept n8 ((Kept.refl w4).alloc (.cells #[.bool false,.slice none 0 0] 27))
    have n9:=New.kept n9 ((Kept.refl w4).alloc (.cells #[.bool false,.slice none 0 0] 27))
    have KT:=KT.then ((Kept.refl w4).alloc (.cells #[.bool false,.slice none 0 0] 27))
    have hF:=Flag.kept hF ((Kept.refl w4).alloc (.cells #[.bool false,.slice none 0 0] 27))
    obtain ⟨p8,hpp8⟩:∃ p,p = w4.heap.size:=⟨_,rfl⟩
    rw [<- hpp8] at zp8 hkp8 hgp8 dp8p9 dp9p8 ⊢
    generalize w4.alloc (.cells #[.bool false,.slice none 0 0] 27) = Wa8 at zp8 zp9 n8 n9 KT hF hHeld ⊢
    clear hpp8
    have cp80:=zp8.c0
    have cp81:=zp8.c1
    have gp80:=zp8.fz 0
    have gp81:=zp8.fz 1
    refine rdy 10 fun K hK => ?_
    go_simp
    refine hK.out _ _ (sS.out _ (KT.set2 hgp8 _ _)) (fun hHeld => ?_)
    clear hK K
    have ep8:=set2_at (x:=(.bool sA)) (y:=(.slice aA kA cA)) cp80 cp81
    have n8:=New.box2 n8 zp8 (.bool sA) (.slice aA kA cA)
    have n9:=New.box2 n9 zp8 (.bool sA) (.slice aA kA cA)
    have KT:=KT.set2 hgp8 (.bool sA) (.slice aA kA cA)
    have hF:=Flag.set2 hF hkp8 (.bool sA) (.slice aA kA cA)
    have zp9:=zp9.far dp9p8 (.bool sA) (.slice aA kA cA)
    clear cp80 cp81 gp80 gp81
    generalize ((Wa8.setCell ⟨p8,0,none⟩ (.bool sA)).setCell ⟨p8,1,none⟩ (.slice aA kA cA)) = Ws0 at ep8 zp9 n8 n9 KT hF hHeld ⊢
    have cp90:=zp9.c0
    have cp91:=zp9.c1
    have gp90:=zp9.fz 0
    have gp91:=zp9.fz 1
    refine rdy 11 fun K hK => ?_
    go_simp
    refine hK.out _ _ (sS.out _ (KT.set2 hgp9 _ _)) (fun hHeld => ?_)
    clear hK K
    have ep9:=set2_at (x:=(.bool sB)) (y:=(.slice aB kB cB)) cp90 cp91
    have ep8:=And.intro (set2_far (x:=(.bool sB)) (y:=(.slice aB kB cB)) ep8.1 dp9p8) (set2_far (x:=(.bool sB)) (y:=(.slice aB kB cB)) ep8.2 dp9p8)
    have n8:=New.box2 n8 zp9 (.bool sB) (.slice aB kB cB)
    have n9:=New.box2 n9 zp9 (.bool sB) (.slice aB kB cB)
    have KT:=KT.set2 hgp9 (.bool sB) (.slice aB kB cB)
    have hF:=Flag.set2 hF hkp9 (.bool sB) (.slice aB kB cB)
    clear cp90 cp91 gp90 gp91
    generalize ((Ws0.setCell ⟨p9,0,none⟩ (.bool sB)).setCell ⟨p9,1,none⟩ (.slice aB kB cB)) = Ws1 at ep8 ep9  n8 n9 KT hF hHeld ⊢
    have bp8:=Box.mk hF hkp8 ep8.1 ep8.2 n8.sl
    have bp9:=Box.mk hF hkp9 ep9.1 ep9.2 n9.sl
    refine dn ?_
    go_wp2_with fail
    go_meet
    case rel => exact ⟨p8,p9,sA,sB,aA,aB,kA,cA,kB,cB,rfl,rfl,KT,hF,lA,lB,bp8,bp9,H8.out.1,H9.out.1,H8.out.2,H9.out.2⟩
   refine AllReadyH.cons rfl (fun K hK => ?_) AllReadyH.nil
   go_simp
   refine hK.out _ _ (sS.out _ (KT.then ((Kept.refl Wa9).alloc _))) (fun hHeld => ?_)
   clear hK K
   have zp8:ZBox (Wa9.alloc (.cells #[.bool false,.slice none 0 0] 27)) Wa9.heap.size:=ZBox.alloc _
   have hkp8:Wa9.heap.size ≠ kb:=by have:=hF.lt; omega
   have hgp8:W.heap.size<=Wa9.heap.size:=KT.size
   have dp8p9:¬ (Wa9.heap.size = p9):=by have:=zp9.lt; omega
   have dp9p8:¬ (p9 = Wa9.heap.size):=by have:=zp9.lt; omega
   have zp9:=zp9.kept ((Kept.refl Wa9).alloc (.cells #[.bool false,.slice none 0 0] 27))
   have n8:=New.kept n8 ((Kept.refl Wa9).alloc (.cells #[.bool false,.slice none 0 0] 27))
   have KT:=KT.then ((Kept.refl Wa9).alloc (.cells #[.bool false,.slice none 0 0] 27))
   have hF:=Flag.kept hF ((Kept.refl Wa9).alloc (.cells #[.bool false,.slice none 0 0] 27))
   obtain ⟨p8,hpp8⟩:∃ p,p = Wa9.heap.size:=⟨_,rfl⟩
   rw [<- hpp8] at zp8 hkp8 hgp8 dp8p9 dp9p8 ⊢
   generalize Wa9.alloc (.cells #[.bool false,.slice none 0 0] 27) = Wa8 at zp8 zp9 n8 KT hF hHeld ⊢
   clear hpp8
   refine rdy 7 fun K hK => ?_
   go_simp
   refine (exact_r false false (.slice b2 k4 c4) (.slice ag kg cg) bd lg (oB:Int) _ (B.sd KT) (B7.sl KT) HR.out.2.2.2 (R.of_right HG.out.1) HG.out.2.2 HE.out.2).mono ?_
   rintro e w4 ⟨hk4,sB,aB,kB,cB,lB,rfl,n9,r9,v9⟩
   have H9:=hid (And.intro r9 v9)
   clear r9 v9
   refine hK.out _ _ (sS.out _ (KT.then hk4)) (fun hHeld => ?_)
   clear hK K
   have zp9:=zp9.kept hk4
   have zp8:=zp8.kept hk4
   have n8:=New.kept n8 hk4
   have KT:=(KT.then hk4)
   have hF:=Flag.kept hF hk4
   have cp80:=zp8.c0
   have cp81:=zp8.c1
   have gp80:=zp8.fz 0
   have gp81:=zp8.fz 1
   refine rdy 10 fun K hK => ?_
   go_simp
   refine hK.out _ _ (sS.out _ (KT.set2 hgp8 _ _)) (fun hHeld => ?_)
   clear hK K
   have ep8:=set2_at (x:=(.bool sA)) (y:=(.slice aA kA cA)) cp80 cp81
   have n8:=New.box2 n8 zp8 (.bool sA) (.slice aA kA cA)
   have n9:=New.box2 n9 zp8 (.bool sA) (.slice aA kA cA)
   have KT:=KT.set2 hgp8 (.bool sA) (.slice aA kA cA)
   have hF:=Flag.set2 hF hkp8 (.bool sA) (.slice aA kA cA)
   have zp9:=zp9.far dp9p8 (.bool sA) (.slice aA kA cA)
   clear cp80 cp81 gp80 gp81
   generalize ((w4.setCell ⟨p8,0,none⟩ (.bool sA)).setCell ⟨p8,1,none⟩ (.slice aA kA cA)) = Ws0 at ep8 zp9 n8 n9 KT hF hHeld ⊢
   have cp90:=zp9.c0
   have cp91:=zp9.c1
   have gp90:=zp9.fz 0
   have gp91:=zp9.fz 1
   refine rdy 11 fun K hK => ?_
   go_simp
   refine hK.out _ _ (sS.out _ (KT.set2 hgp9 _ _)) (fun hHeld => ?_)
   clear hK K
   have ep9:=set2_at (x:=(.bool sB)) (y:=(.slice aB kB cB)) cp90 cp91
   have ep8:=And.intro (set2_far (x:=(.bool sB)) (y:=(.slice aB kB cB)) ep8.1 dp9p8) (set2_far (x:=(.bool sB)) (y:=(.slice aB kB cB)) ep8.2 dp9p8)
   have n8:=New.box2 n8 zp9 (.bool sB) (.slice aB kB cB)
   have n9:=New.box2 n9 zp9 (.bool sB) (.slice aB kB cB)
   have KT:=KT.set2 hgp9 (.bool sB) (.slice aB kB cB)
   have hF:=Flag.set2 hF hkp9 (.bool sB) (.slice aB kB cB)
   clear cp90 cp91 gp90 gp91
   generalize ((Ws0.setCell ⟨p9,0,none⟩ (.bool sB)).setCell ⟨p9,1,none⟩ (.slice aB kB cB)) = Ws1 at ep8 ep9  n8 n9 KT hF hHeld ⊢
   have bp8:=Box.mk hF hkp8 ep8.1 ep8.2 n8.sl
   have bp9:=Box.mk hF hkp9 ep9.1 ep9.2 n9.sl
   refine dn ?_
   go_wp2_with fail
   go_meet
   case rel => exact ⟨p8,p9,sA,sB,aA,aB,kA,cA,kB,cB,rfl,rfl,KT,hF,lA,lB,bp8,bp9,H8.out.1,H9.out.1,H8.out.2,H9.out.2⟩
  refine AllReadyH.cons rfl (fun K hK => ?_) ?_
  ·
   go_simp
   refine hK.out _ _ (sS.out _ (KT.then ((Kept.refl Wd).alloc _))) (fun hHeld => ?_)
   clear hK K
   have zp8:ZBox (Wd.alloc (.cells #[.bool false,.slice none 0 0] 27)) Wd.heap.size:=ZBox.alloc _
   have hkp8:Wd.heap.size ≠ kb:=by have:=hF.lt; omega
   have hgp8:W.heap.size<=Wd.heap.size:=KT.size
   have KT:=KT.then ((Kept.refl Wd).alloc (.cells #[.bool false,.slice none 0 0] 27))
   have hF:=Flag.kept hF ((Kept.refl Wd).alloc (.cells #[.bool false,.slice none 0 0] 27))
   obtain ⟨p8,hpp8⟩:∃ p,p = Wd.heap.size:=⟨_,rfl⟩
   rw [<- hpp8] at zp8 hkp8 hgp8  ⊢
   generalize Wd.alloc (.cells #[.bool false,.slice none 0 0] 27) = Wa8 at zp8   KT hF hHeld ⊢
   clear hpp8
   refine wpAnyH_ready (rs:=[3,9]) (by kernel_rfl) (by simp) ?_
   refine AllReadyH.cons rfl (fun K hK => ?_) ?_
   ·
    go_simp
    refine (exact_r false false (.slice a2 k2 c2) (.slice ag kg cg) ad lg (oA:Int) _ (A.sd KT) (B7.sl KT) HR.out.2.1 (R.of_right HG.out.1) HG.out.2.2 HE.out.1).mono ?_
    rintro e w3 ⟨hk3,sA,aA,kA,cA,lA,rfl,n8,r8,v8⟩
    have H8:=hid (And.intro r8 v8)
    clear r8 v8
    refine hK.out _ _ (sS.out _ (KT.then hk3)) (fun hHeld => ?_)
    clear hK K
    have zp8:=zp8.kept hk3
    have KT:=(KT.then hk3)
    have hF:=Flag.kept hF hk3
    refine wpAnyH_ready (rs:=[7,9]) (by kernel_rfl) (by simp) ?_
    refine AllReadyH.cons rfl (fun K hK => ?_) ?_
    ·
     go_simp
     refine (exact_r false false (.slice b2 k4 c4) (.slice ag kg cg) bd lg (oB:Int) _ (B.sd KT) (B7.sl KT) HR.out.2.2.2 (R.of_right HG.out.1) HG.out.2.2 HE.out.2).mono ?_
     rintro e w4 ⟨hk4,sB,aB,kB,cB,lB,rfl,n9,r9,v9⟩
     have H9:=hid (And.intro r9 v9)
     clear r9 v9
     refine hK.out _ _ (sS.out _ (KT.then hk4)) (fun hHeld => ?_)
     clear hK K
     have zp8:=zp8.kept hk4
     have n8:=New.kept n8 hk4
     have KT:=(KT.then hk4)
     have hF:=Flag.kept hF hk4
     refine rdy 9 fun K hK => ?_
     go_simp
     refine hK.out _ _ (sS.out _ (KT.then ((Kept.refl w4).alloc _))) (fun hHeld => ?_)
     clear hK K
     have zp9:ZBox (w4.alloc (.cells #[.bool false,.slice none 0 0] 27)) w4.heap.size:=ZBox.alloc _
     have hkp9:w4.heap.size ≠ kb:=by have:=hF.lt; omega
     have hgp9:W.heap.size<=w4.heap.size:=KT.size
     have dp9p8:¬ (w4.heap.size = p8):=by have:=zp8.lt; omega
     have dp8p9:¬ (p8 = w4.heap.size):=by have:=zp8.lt; omega
     have zp8:=zp8.kept ((Kept.refl w4).alloc (.cells #[.bool false,.slice none 0 0] 27))
     have n8:=New.kept n8 ((Kept.refl w4).alloc (.cells #[.bool false,.slice none 0 0] 27))
     have n9:=New.kept n9 ((Kept.refl w4).alloc (.cells #[.bool false,.slice none 0 0] 27))
     have KT:=KT.then ((Kept.refl w4).alloc (.cells #[.bool false,.slice none 0 0] 27))
     have hF:=Flag.kept hF ((Kept.refl w4).alloc (.cells #[.bool false,.slice none 0 0] 27))
     obtain ⟨p9,hpp9⟩:∃ p,p = w4.heap.size:=⟨_,rfl⟩
     rw [<- hpp9] at zp9 hkp9 hgp9 dp9p8 dp8p9 ⊢
     generalize w4.alloc (.cells #[.bool false,.slice none 0 0] 27) = Wa9 at zp9 zp8 n8 n9 KT hF hHeld ⊢
     clear hpp9
     have cp80:=zp8.c0
     have cp81:=zp8.c1
     have gp80:=zp8.fz 0
     have gp81:=zp8.fz 1
     refine rdy 10 fun K hK => ?_
     go_simp
     refine hK.out _ _ (sS.out _ (KT.set2 hgp8 _ _)) (fun hHeld => ?_)
     clear hK K
     have ep8:=set2_at (x:=(.bool sA)) (y:=(.slice aA kA cA)) cp80 cp81
     have n8:=New.box2 n8 zp8 (.bool sA) (.slice aA kA cA)
     have n9:=New.box2 n9 zp8 (.bool sA) (.slice aA kA cA)
     have KT:=KT.set2 hgp8 (.bool sA) (.slice aA kA cA)
     have hF:=Flag.set2 hF hkp8 (.bool sA) (.slice aA kA cA)
     have zp9:=zp9.far dp9p8 (.bool sA) (.slice aA kA cA)
     clear cp80 cp81 gp80 gp81
     generalize ((Wa9.setCell ⟨p8,0,none⟩ (.bool sA)).setCell ⟨p8,1,none⟩ (.slice aA kA cA)) = Ws0 at ep8 zp9 n8 n9 KT hF hHeld ⊢
     have cp90:=zp9.c0
     have cp91:=zp9.c1
     have gp90:=zp9.fz 0
     have gp91:=zp9.fz 1
     refine rdy 11 fun K hK => ?_
     go_simp
     refine hK.out _ _ (sS.out _ (KT.set2 hgp9 _ _)) (fun hHeld => ?_)
     clear hK K
     have ep9:=set2_at (x:=(.bool sB)) (y:=(.slice aB kB cB)) cp90 cp91
     have ep8:=And.intro (set2_far (x:=(.bool sB)) (y:=(.slice aB kB cB)) ep8.1 dp9p8) (set2_far (x:=(.bool sB)) (y:=(.slice aB kB cB)) ep8.2 dp9p8)
     have n8:=New.box2 n8 zp9 (.bool sB) (.slice aB kB cB)
     have n9:=New.box2 n9 zp9 (.bool sB) (.slice aB kB cB)
     have KT:=KT.set2 hgp9 (.bool sB) (.slice aB kB cB)
     have hF:=Flag.set2 hF hkp9 (.bool sB) (.slice aB kB cB)
     clear cp90 cp91 gp90 gp91
     generalize ((Ws0.setCell ⟨p9,0,none⟩ (.bool sB)).setCell ⟨p9,1,none⟩ (.slice aB kB cB)) = Ws1 at ep8 ep9  n8 n9 KT hF hHeld ⊢
     have bp8:=Box.mk hF hkp8 ep8.1 ep8.2 n8.sl
     have bp9:=Box.mk hF hkp9 ep9.1 ep9.2 n9.sl
     refine dn ?_
     go_wp2_with fail
     go_meet
     case rel => exact ⟨p8,p9,sA,sB,aA,aB,kA,cA,kB,cB,rfl,rfl,KT,hF,lA,lB,bp8,bp9,H8.out.1,H9.out.1,H8.out.2,H9.out.2⟩
    refine AllReadyH.cons rfl (fun K hK => ?_) AllReadyH.nil
    go_simp
    refine hK.out _ _ (sS.out _ (KT.then ((Kept.refl w3).alloc _))) (fun hHeld => ?_)
    clear hK K
    have zp9:ZBox (w3.alloc (.cells #[.bool false,.slice none 0 0] 27)) w3.heap.size:=ZBox.alloc _
    have hkp9:w3.heap.size ≠ kb:=by have:=hF.lt; omega
    have hgp9:W.heap.size<=w3.heap.size:=KT.size
    have dp9p8:¬ (w3.heap.size = p8):=by have:=zp8.lt; omega
    have dp8p9:¬ (p8 = w3.heap.size):=by have:=zp8.lt; omega
    have zp8:=zp8.kept ((Kept.refl w3).alloc (.cells #[.bool false,.slice none 0 0] 27))
    have n8:=New.kept n8 ((Kept.refl w3).alloc (.cells #[.bool false,.slice none 0 0] 27))
    have KT:=KT.then ((Kept.refl w3).alloc (.cells #[.bool false,.slice none 0 0] 27))
    have hF:=Flag.kept hF ((Kept.refl w3).alloc (.cells #[.bool false,.slice none 0 0] 27))
    obtain ⟨p9,hpp9⟩:∃ p,p = w3.heap.size:=⟨_,rfl⟩
    rw [<- hpp9] at zp9 hkp9 hgp9 dp9p8 dp8p9 ⊢
    generalize w3.alloc (.cells #[.bool false,.slice none 0 0] 27) = Wa9 at zp9 zp8 n8 KT hF hHeld ⊢
    clear hpp9
    refine rdy 7 fun K hK => ?_
    go_simp
    refine (exact_r false false (.slice b2 k4 c4) (.slice ag kg cg) bd lg (oB:Int) _ (B.sd KT) (B7.sl KT) HR.out.2.2.2 (R.of_right HG.out.1) HG.out.2.2 HE.out.2).mono ?_
    rintro e w4 ⟨hk4,sB,aB,kB,cB,lB,rfl,n9,r9,v9⟩
    have H9:=hid (And.intro r9 v9)
    clear r9 v9
    refine hK.out _ _ (sS.out _ (KT.then hk4)) (fun hHeld => ?_)
    clear hK K
    have zp8:=zp8.kept hk4
    have zp9:=zp9.kept hk4
    have n8:=New.kept n8 hk4
    have KT:=(KT.then hk4)
    have hF:=Flag.kept hF hk4
    have cp80:=zp8.c0
    have cp81:=zp8.c1
    have gp80:=zp8.fz 0
    have gp81:=zp8.fz 1
    refine rdy 10 fun K hK => ?_
    go_simp
    refine hK.out _ _ (sS.out _ (KT.set2 hgp8 _ _)) (fun hHeld => ?_)
    clear hK K
    have ep8:=set2_at (x:=(.bool sA)) (y:=(.slice aA kA cA)) cp80 cp81
    have n8:=New.box2 n8 zp8 (.bool sA) (.slice aA kA cA)
    have n9:=New.box2 n9 zp8 (.bool sA) (.slice aA kA cA)
    have KT:=KT.set2 hgp8 (.bool sA) (.slice aA kA cA)
    have hF:=Flag.set2 hF hkp8 (.bool sA) (.slice aA kA cA)
    have zp9:=zp9.far dp9p8 (.bool sA) (.slice aA kA cA)
    clear cp80 cp81 gp80 gp81
    generalize ((w4.setCell ⟨p8,0,none⟩ (.bool sA)).setCell ⟨p8,1,none⟩ (.slice aA kA cA)) = Ws0 at ep8 zp9 n8 n9 KT hF hHeld ⊢
    have cp90:=zp9.c0
    have cp91:=zp9.c1
    have gp90:=zp9.fz 0
    have gp91:=zp9.fz 1
    refine rdy 11 fun K hK => ?_
    go_simp
    refine hK.out _ _ (sS.out _ (KT.set2 hgp9 _ _)) (fun hHeld => ?_)
    clear hK K
    have ep9:=set2_at (x:=(.bool sB)) (y:=(.slice aB kB cB)) cp90 cp91
    have ep8:=And.intro (set2_far (x:=(.bool sB)) (y:=(.slice aB kB cB)) ep8.1 dp9p8) (set2_far (x:=(.bool sB)) (y:=(.slice aB kB cB)) ep8.2 dp9p8)
    have n8:=New.box2 n8 zp9 (.bool sB) (.slice aB kB cB)
    have n9:=New.box2 n9 zp9 (.bool sB) (.slice aB kB cB)
    have KT:=KT.set2 hgp9 (.bool sB) (.slice aB kB cB)
    have hF:=Flag.set2 hF hkp9 (.bool sB) (.slice aB kB cB)
    clear cp90 cp91 gp90 gp91
    generalize ((Ws0.setCell ⟨p9,0,none⟩ (.bool sB)).setCell ⟨p9,1,none⟩ (.slice aB kB cB)) = Ws1 at ep8 ep9  n8 n9 KT hF hHeld ⊢
    have bp8:=Box.mk hF hkp8 ep8.1 ep8.2 n8.sl
    have bp9:=Box.mk hF hkp9 ep9.1 ep9.2 n9.sl
    refine dn ?_
    go_wp2_with fail
    go_meet
    case rel => exact ⟨p8,p9,sA,sB,aA,aB,kA,cA,kB,cB,rfl,rfl,KT,hF,lA,lB,bp8,bp9,H8.out.1,H9.out.1,H8.out.2,H9.out.2⟩
   refine AllReadyH.cons rfl (fun K hK => ?_) AllReadyH.nil
   go_simp
   refine hK.out _ _ (sS.out _ (KT.then ((Kept.refl Wa8).alloc _))) (fun hHeld => ?_)
   clear hK K
   have zp9:ZBox (Wa8.alloc (.cells #[.bool false,.slice none 0 0] 27)) Wa8.heap.size:=ZBox.alloc _
   have hkp9:Wa8.heap.size ≠ kb:=by have:=hF.lt; omega
   have hgp9:W.heap.size<=Wa8.heap.size:=KT.size
   have dp9p8:¬ (Wa8.heap.size = p8):=by have:=zp8.lt; omega
   have dp8p9:¬ (p8 = Wa8.heap.size):=by have:=zp8.lt; omega
   have zp8:=zp8.kept ((Kept.refl Wa8).alloc (.cells #[.bool false,.slice none 0 0] 27))
   have KT:=KT.then ((Kept.refl Wa8).alloc (.cells #[.bool false,.slice none 0 0] 27))
   have hF:=Flag.kept hF ((Kept.refl Wa8).alloc (.cells #[.bool false,.slice none 0 0] 27))
   obtain ⟨p9,hpp9⟩:∃ p,p = Wa8.heap.size:=⟨_,rfl⟩
   rw [<- hpp9] at zp9 hkp9 hgp9 dp9p8 dp8p9 ⊢
   generalize Wa8.alloc (.cells #[.bool false,.slice none 0 0] 27) = Wa9 at zp9 zp8  KT hF hHeld ⊢
   clear hpp9
   refine rdy 3 fun K hK => ?_
   go_simp
   refine (exact_r false false (.slice a2 k2 c2) (.slice ag kg cg) ad lg (oA:Int) _ (A.sd KT) (B7.sl KT) HR.out.2.1 (R.of_right HG.out.1) HG.out.2.2 HE.out.1).mono ?_
   rintro e w3 ⟨hk3,sA,aA,kA,cA,lA,rfl,n8,r8,v8⟩
   have H8:=hid (And.intro r8 v8)
   clear r8 v8
   refine hK.out _ _ (sS.out _ (KT.then hk3)) (fun hHeld => ?_)
   clear hK K
   have zp8:=zp8.kept hk3
   have zp9:=zp9.kept hk3
   have KT:=(KT.then hk3)
   have hF:=Flag.kept hF hk3
   refine rdy 7 fun K hK => ?_
   go_simp
   refine (exact_r false false (.slice b2 k4 c4) (.slice ag kg cg) bd lg (oB:Int) _ (B.sd KT) (B7.sl KT) HR.out.2.2.2 (R.of_right HG.out.1) HG.out.2.2 HE.out.2).mono ?_
   rintro e w4 ⟨hk4,sB,aB,kB,cB,lB,rfl,n9,r9,v9⟩
   have H9:=hid (And.intro r9 v9)
   clear r9 v9
   refine hK.out _ _ (sS.out _ (KT.then hk4)) (fun hHeld => ?_)
   clear hK K
   have zp8:=zp8.kept hk4
   have zp9:=zp9.kept hk4
   have n8:=New.kept n8 hk4
   have KT:=(KT.then hk4)
   have hF:=Flag.kept hF hk4
   have cp80:=zp8.c0
   have cp81:=zp8.c1
   have gp80:=zp8.fz 0
   have gp81:=zp8.fz 1
   refine rdy 10 fun K hK => ?_
   go_simp
   refine hK.out _ _ (sS.out _ (KT.set2 hgp8 _ _)) (fun hHeld => ?_)
   clear hK K
   have ep8:=set2_at (x:=(.bool sA)) (y:=(.slice aA kA cA)) cp80 cp81
   have n8:=New.box2 n8 zp8 (.bool sA) (.slice aA kA cA)
   have n9:=New.box2 n9 zp8 (.bool sA) (.slice aA kA cA)
   have KT:=KT.set2 hgp8 (.bool sA) (.slice aA kA cA)
   have hF:=Flag.set2 hF hkp8 (.bool sA) (.slice aA kA cA)
   have zp9:=zp9.far dp9p8 (.bool sA) (.slice aA kA cA)
   clear cp80 cp81 gp80 gp81
   generalize ((w4.setCell ⟨p8,0,none⟩ (.bool sA)).setCell ⟨p8,1,none⟩ (.slice aA kA cA)) = Ws0 at ep8 zp9 n8 n9 KT hF hHeld ⊢
   have cp90:=zp9.c0
   have cp91:=zp9.c1
   have gp90:=zp9.fz 0
   have gp91:=zp9.fz 1
   refine rdy 11 fun K hK => ?_
   go_simp
   refine hK.out _ _ (sS.out _ (KT.set2 hgp9 _ _)) (fun hHeld => ?_)
   clear hK K
   have ep9:=set2_at (x:=(.bool sB)) (y:=(.slice aB kB cB)) cp90 cp91
   have ep8:=And.intro (set2_far (x:=(.bool sB)) (y:=(.slice aB kB cB)) ep8.1 dp9p8) (set2_far (x:=(.bool sB)) (y:=(.slice aB kB cB)) ep8.2 dp9p8)
   have n8:=New.box2 n8 zp9 (.bool sB) (.slice aB kB cB)
   have n9:=New.box2 n9 zp9 (.bool sB) (.slice aB kB cB)
   have KT:=KT.set2 hgp9 (.bool sB) (.slice aB kB cB)
   have hF:=Flag.set2 hF hkp9 (.bool sB) (.slice aB kB cB)
   clear cp90 cp91 gp90 gp91
   generalize ((Ws0.setCell ⟨p9,0,none⟩ (.bool sB)).setCell ⟨p9,1,none⟩ (.slice aB kB cB)) = Ws1 at ep8 ep9  n8 n9 KT hF hHeld ⊢
   have bp8:=Box.mk hF hkp8 ep8.1 ep8.2 n8.sl
   have bp9:=Box.mk hF hkp9 ep9.1 ep9.2 n9.sl
   refine dn ?_
   go_wp2_with fail
   go_meet
   case rel => exact ⟨p8,p9,sA,sB,aA,aB,kA,cA,kB,cB,rfl,rfl,KT,hF,lA,lB,bp8,bp9,H8.out.1,H9.out.1,H8.out.2,H9.out.2⟩
  refine AllReadyH.cons rfl (fun K hK => ?_) AllReadyH.nil
  go_simp
  refine hK.out _ _ (sS.out _ (KT.then ((Kept.refl Wd).alloc _))) (fun hHeld => ?_)
  clear hK K
  have zp9:ZBox (Wd.alloc (.cells #[.bool false,.slice none 0 0] 27)) Wd.heap.size:=ZBox.alloc _
  have hkp9:Wd.heap.size ≠ kb:=by have:=hF.lt; omega
  have hgp9:W.heap.size<=Wd.heap.size:=KT.size
  have KT:=KT.then ((Kept.refl Wd).alloc (.cells #[.bool false,.slice none 0 0] 27))
  have hF:=Flag.kept hF ((Kept.refl Wd).alloc (.cells #[.bool false,.slice none 0 0] 27))
  obtain ⟨p9,hpp9⟩:∃ p,p = Wd.heap.size:=⟨_,rfl⟩
  rw [<- hpp9] at zp9 hkp9 hgp9  ⊢
  generalize Wd.alloc (.cells #[.bool false,.slice none 0 0] 27) = Wa9 at zp9   KT hF hHeld ⊢
  clear hpp9
  refine wpAnyH_ready (rs:=[3,8]) (by kernel_rfl) (by simp) ?_
  refine AllReadyH.cons rfl (fun K hK => ?_) ?_
  ·
   go_simp
   refine (exact_r false false (.slice a2 k2 c2) (.slice ag kg cg) ad lg (oA:Int) _ (A.sd KT) (B7.sl KT) HR.out.2.1 (R.of_right HG.out.1) HG.out.2.2 HE.out.1).mono ?_
   rintro e w3 ⟨hk3,sA,aA,kA,cA,lA,rfl,n8,r8,v8⟩
   have H8:=hid (And.intro r8 v8)
   clear r8 v8
   refine hK.out _ _ (sS.out _ (KT.then hk3)) (fun hHeld => ?_)
   clear hK K
   have zp9:=zp9.kept hk3
   have KT:=(KT.then hk3)
   have hF:=Flag.kept hF hk3
   refine wpAnyH_ready (rs:=[7,8]) (by kernel_rfl) (by simp) ?_
   refine AllReadyH.cons rfl (fun K hK => ?_) ?_
   ·
    go_simp
    refine (exact_r false false (.slice b2 k4 c4) (.slice ag kg cg) bd lg (oB:Int) _ (B.sd KT) (B7.sl KT) HR.out.2.2.2 (R.of_right HG.out.1) HG.out.2.2 HE.out.2).mono ?_
    rintro e w4 ⟨hk4,sB,aB,kB,cB,lB,rfl,n9,r9,v9⟩
    have H9:=hid (And.intro r9 v9)
    clear r9 v9
    refine hK.out _ _ (sS.out _ (KT.then hk4)) (fun hHeld => ?_)
    clear hK K
    have zp9:=zp9.kept hk4
    have n8:=New.kept n8 hk4
    have KT:=(KT.then hk4)
    have hF:=Flag.kept hF hk4
    refine rdy 8 fun K hK => ?_
    go_simp
    refine hK.out _ _ (sS.out _ (KT.then ((Kept.refl w4).alloc _))) (fun hHeld => ?_)
    clear hK K
    have zp8:ZBox (w4.alloc (.cells #[.bool false,.slice none 0 0] 27)) w4.heap.size:=ZBox.alloc _
    have hkp8:w4.heap.size ≠ kb:=by have:=hF.lt; omega
    have hgp8:W.heap.size<=w4.heap.size:=KT.size
    have dp8p9:¬ (w4.heap.size = p9):=by have:=zp9.lt; omega
    have dp9p8:¬ (p9 = w4.heap.size):=by have:=zp9.lt; omega
    have zp9:=zp9.kept ((Kept.refl w4).alloc (.cells #[.bool false,.slice none 0 0] 27))
    have n8:=New.kept n8 ((Kept.refl w4).alloc (.cells #[.bool false,.slice none 0 0] 27))
    have n9:=New.kept n9 ((Kept.refl w4).alloc (.cells #[.bool false,.slice none 0 0] 27))
    have KT:=KT.then ((Kept.refl w4).alloc (.cells #[.bool false,.slice none 0 0] 27))
    have hF:=Flag.kept hF ((Kept.refl w4).alloc (.cells #[.bool false,.slice none 0 0] 27))
    obtain ⟨p8,hpp8⟩:∃ p,p = w4.heap.size:=⟨_,rfl⟩
    rw [<- hpp8] at zp8 hkp8 hgp8 dp8p9 dp9p8 ⊢
    generalize w4.alloc (.cells #[.bool false,.slice none 0 0] 27) = Wa8 at zp8 zp9 n8 n9 KT hF hHeld ⊢
    clear hpp8
    have cp80:=zp8.c0
    have cp81:=zp8.c1
    have gp80:=zp8.fz 0
    have gp81:=zp8.fz 1
    refine rdy 10 fun K hK => ?_
    go_simp
    refine hK.out _ _ (sS.out _ (KT.set2 hgp8 _ _)) (fun hHeld => ?_)
    clear hK K
    have ep8:=set2_at (x:=(.bool sA)) (y:=(.slice aA kA cA)) cp80 cp81
    have n8:=New.box2 n8 zp8 (.bool sA) (.slice aA kA cA)
    have n9:=New.box2 n9 zp8 (.bool sA) (.slice aA kA cA)
    have KT:=KT.set2 hgp8 (.bool sA) (.slice aA kA cA)
    have hF:=Flag.set2 hF hkp8 (.bool sA) (.slice aA kA cA)
    have zp9:=zp9.far dp9p8 (.bool sA) (.slice aA kA cA)
    clear cp80 cp81 gp80 gp81
    generalize ((Wa8.setCell ⟨p8,0,none⟩ (.bool sA)).setCell ⟨p8,1,none⟩ (.slice aA kA cA)) = Ws0 at ep8 zp9 n8 n9 KT hF hHeld ⊢
    have cp90:=zp9.c0
    have cp91:=zp9.c1
    have gp90:=zp9.fz 0
    have gp91:=zp9.fz 1
    refine rdy 11 fun K hK => ?_
    go_simp
    refine hK.out _ _ (sS.out _ (KT.set2 hgp9 _ _)) (fun hHeld => ?_)
    clear hK K
    have ep9:=set2_at (x:=(.bool sB)) (y:=(.slice aB kB cB)) cp90 cp91
    have ep8:=And.intro (set2_far (x:=(.bool sB)) (y:=(.slice aB kB cB)) ep8.1 dp9p8) (set2_far (x:=(.bool sB)) (y:=(.slice aB kB cB)) ep8.2 dp9p8)
    have n8:=New.box2 n8 zp9 (.bool sB) (.slice aB kB cB)
    have n9:=New.box2 n9 zp9 (.bool sB) (.slice aB kB cB)
    have KT:=KT.set2 hgp9 (.bool sB) (.slice aB kB cB)
    have hF:=Flag.set2 hF hkp9 (.bool sB) (.slice aB kB cB)
    clear cp90 cp91 gp90 gp91
    generalize ((Ws0.setCell ⟨p9,0,none⟩ (.bool sB)).setCell ⟨p9,1,none⟩ (.slice aB kB cB)) = Ws1 at ep8 ep9  n8 n9 KT hF hHeld ⊢
    have bp8:=Box.mk hF hkp8 ep8.1 ep8.2 n8.sl
    have bp9:=Box.mk hF hkp9 ep9.1 ep9.2 n9.sl
    refine dn ?_
    go_wp2_with fail
    go_meet
    case rel => exact ⟨p8,p9,sA,sB,aA,aB,kA,cA,kB,cB,rfl,rfl,KT,hF,lA,lB,bp8,bp9,H8.out.1,H9.out.1,H8.out.2,H9.out.2⟩
   refine AllReadyH.cons rfl (fun K hK => ?_) AllReadyH.nil
   go_simp
   refine hK.out _ _ (sS.out _ (KT.then ((Kept.refl w3).alloc _))) (fun hHeld => ?_)
   clear hK K
   have zp8:ZBox (w3.alloc (.cells #[.bool false,.slice none 0 0] 27)) w3.heap.size:=ZBox.alloc _
   have hkp8:w3.heap.size ≠ kb:=by have:=hF.lt; omega
   have hgp8:W.heap.size<=w3.heap.size:=KT.size
   have dp8p9:¬ (w3.heap.size = p9):=by have:=zp9.lt; omega
   have dp9p8:¬ (p9 = w3.heap.size):=by have:=zp9.lt; omega
   have zp9:=zp9.kept ((Kept.refl w3).alloc (.cells #[.bool false,.slice none 0 0] 27))
   have n8:=New.kept n8 ((Kept.refl w3).alloc (.cells #[.bool false,.slice none 0 0] 27))
   have KT:=KT.then ((Kept.refl w3).alloc (.cells #[.bool false,.slice none 0 0] 27))
   have hF:=Flag.kept hF ((Kept.refl w3).alloc (.cells #[.bool false,.slice none 0 0] 27))
   obtain ⟨p8,hpp8⟩:∃ p,p = w3.heap.size:=⟨_,rfl⟩
   rw [<- hpp8] at zp8 hkp8 hgp8 dp8p9 dp9p8 ⊢
   generalize w3.alloc (.cells #[.bool false,.slice none 0 0] 27) = Wa8 at zp8 zp9 n8 KT hF hHeld ⊢
   clear hpp8
   refine rdy 7 fun K hK => ?_
   go_simp
   refine (exact_r false false (.slice b2 k4 c4) (.slice ag kg cg) bd lg (oB:Int) _ (B.sd KT) (B7.sl KT) HR.out.2.2.2 (R.of_right HG.out.1) HG.out.2.2 HE.out.2).mono ?_
   rintro e w4 ⟨hk4,sB,aB,kB,cB,lB,rfl,n9,r9,v9⟩
   have H9:=hid (And.intro r9 v9)
   clear r9 v9
   refine hK.out _ _ (sS.out _ (KT.then hk4)) (fun hHeld => ?_)
   clear hK K
   have zp9:=zp9.kept hk4
   have zp8:=zp8.kept hk4
   have n8:=New.kept n8 hk4
   have KT:=(KT.then hk4)
   have hF:=Flag.kept hF hk4
   have cp80:=zp8.c0
   have cp81:=zp8.c1
   have gp80:=zp8.fz 0
   have gp81:=zp8.fz 1
   refine rdy 10 fun K hK => ?_
   go_simp
   refine hK.out _ _ (sS.out _ (KT.set2 hgp8 _ _)) (fun hHeld => ?_)
   clear hK K
   have ep8:=set2_at (x:=(.bool sA)) (y:=(.slice aA kA cA)) cp80 cp81
   have n8:=New.box2 n8 zp8 (.bool sA) (.slice aA kA cA)
   have n9:=New.box2 n9 zp8 (.bool sA) (.slice aA kA cA)
   have KT:=KT.set2 hgp8 (.bool sA) (.slice aA kA cA)
   have hF:=Flag.set2 hF hkp8 (.bool sA) (.slice aA kA cA)
   have zp9:=zp9.far dp9p8 (.bool sA) (.slice aA kA cA)
   clear cp80 cp81 gp80 gp81
   generalize ((w4.setCell ⟨p8,0,none⟩ (.bool sA)).setCell ⟨p8,1,none⟩ (.slice aA kA cA)) = Ws0 at ep8 zp9 n8 n9 KT hF hHeld ⊢
   have cp90:=zp9.c0
   have cp91:=zp9.c1
   have gp90:=zp9.fz 0
   have gp91:=zp9.fz 1
   refine rdy 11 fun K hK => ?_
   go_simp
   refine hK.out _ _ (sS.out _ (KT.set2 hgp9 _ _)) (fun hHeld => ?_)
   clear hK K
   have ep9:=set2_at (x:=(.bool sB)) (y:=(.slice aB kB cB)) cp90 cp91
   have ep8:=And.intro (set2_far (x:=(.bool sB)) (y:=(.slice aB kB cB)) ep8.1 dp9p8) (set2_far (x:=(.bool sB)) (y:=(.slice aB kB cB)) ep8.2 dp9p8)
   have n8:=New.box2 n8 zp9 (.bool sB) (.slice aB kB cB)
   have n9:=New.box2 n9 zp9 (.bool sB) (.slice aB kB cB)
   have KT:=KT.set2 hgp9 (.bool sB) (.slice aB kB cB)
   have hF:=Flag.set2 hF hkp9 (.bool sB) (.slice aB kB cB)
   clear cp90 cp91 gp90 gp91
   generalize ((Ws0.setCell ⟨p9,0,none⟩ (.bool sB)).setCell ⟨p9,1,none⟩ (.slice aB kB cB)) = Ws1 at ep8 ep9  n8 n9 KT hF hHeld ⊢
   have bp8:=Box.mk hF hkp8 ep8.1 ep8.2 n8.sl
   have bp9:=Box.mk hF hkp9 ep9.1 ep9.2 n9.sl
   refine dn ?_
   go_wp2_with fail
   go_meet
   case rel => exact ⟨p8,p9,sA,sB,aA,aB,kA,cA,kB,cB,rfl,rfl,KT,hF,lA,lB,bp8,bp9,H8.out.1,H9.out.1,H8.out.2,H9.out.2⟩
  refine AllReadyH.cons rfl (fun K hK => ?_) AllReadyH.nil
  go_simp
  refine hK.out _ _ (sS.out _ (KT.then ((Kept.refl Wa9).alloc _))) (fun hHeld => ?_)
  clear hK K
  have zp8:ZBox (Wa9.alloc (.cells #[.bool false,.slice none 0 0] 27)) Wa9.heap.size:=ZBox.alloc _
  have hkp8:Wa9.heap.size ≠ kb:=by have:=hF.lt; omega
  have hgp8:W.heap.size<=Wa9.heap.size:=KT.size
  have dp8p9:¬ (Wa9.heap.size = p9):=by have:=zp9.lt; omega
  have dp9p8:¬ (p9 = Wa9.heap.size):=by have:=zp9.lt; omega
  have zp9:=zp9.kept ((Kept.refl Wa9).alloc (.cells #[.bool false,.slice none 0 0] 27))
  have KT:=KT.then ((Kept.refl Wa9).alloc (.cells #[.bool false,.slice none 0 0] 27))
  have hF:=Flag.kept hF ((Kept.refl Wa9).alloc (.cells #[.bool false,.slice none 0 0] 27))
  obtain ⟨p8,hpp8⟩:∃ p,p = Wa9.heap.size:=⟨_,rfl⟩
  rw [<- hpp8] at zp8 hkp8 hgp8 dp8p9 dp9p8 ⊢
  generalize Wa9.alloc (.cells #[.bool false,.slice none 0 0] 27) = Wa8 at zp8 zp9  KT hF hHeld ⊢
  clear hpp8
  refine rdy 3 fun K hK => ?_
  go_simp
  refine (exact_r false false (.slice a2 k2 c2) (.slice ag kg cg) ad lg (oA:Int) _ (A.sd KT) (B7.sl KT) HR.out.2.1 (R.of_right HG.out.1) HG.out.2.2 HE.out.1).mono ?_
  rintro e w3 ⟨hk3,sA,aA,kA,cA,lA,rfl,n8,r8,v8⟩
  have H8:=hid (And.intro r8 v8)
  clear r8 v8
  refine hK.out _ _ (sS.out _ (KT.then hk3)) (fun hHeld => ?_)
  clear hK K
  have zp9:=zp9.kept hk3
  have zp8:=zp8.kept hk3
  have KT:=(KT.then hk3)
  have hF:=Flag.kept hF hk3
  refine rdy 7 fun K hK => ?_
  go_simp
  refine (exact_r false false (.slice b2 k4 c4) (.slice ag kg cg) bd lg (oB:Int) _ (B.sd KT) (B7.sl KT) HR.out.2.2.2 (R.of_right HG.out.1) HG.out.2.2 HE.out.2).mono ?_
  rintro e w4 ⟨hk4,sB,aB,kB,cB,lB,rfl,n9,r9,v9⟩
  have H9:=hid (And.intro r9 v9)
  clear r9 v9
  refine hK.out _ _ (sS.out _ (KT.then hk4)) (fun hHeld => ?_)
  clear hK K
  have zp9:=zp9.kept hk4
  have zp8:=zp8.kept hk4
  have n8:=New.kept n8 hk4
  have KT:=(KT.then hk4)
  have hF:=Flag.kept hF hk4
  have cp80:=zp8.c0
  have cp81:=zp8.c1
  have gp80:=zp8.fz 0
  have gp81:=zp8.fz 1
  refine rdy 10 fun K hK => ?_
  go_simp
  refine hK.out _ _ (sS.out _ (KT.set2 hgp8 _ _)) (fun hHeld => ?_)
  clear hK K
  have ep8:=set2_at (x:=(.bool sA)) (y:=(.slice aA kA cA)) cp80 cp81
  have n8:=New.box2 n8 zp8 (.bool sA) (.slice aA kA cA)
  have n9:=New.box2 n9 zp8 (.bool sA) (.slice aA kA cA)
  have KT:=KT.set2 hgp8 (.bool sA) (.slice aA kA cA)
  have hF:=Flag.set2 hF hkp8 (.bool sA) (.slice aA kA cA)
  have zp9:=zp9.far dp9p8 (.bool sA) (.slice aA kA cA)
  clear cp80 cp81 gp80 gp81
  generalize ((w4.setCell ⟨p8,0,none⟩ (.bool sA)).setCell ⟨p8,1,none⟩ (.slice aA kA cA)) = Ws0 at ep8 zp9 n8 n9 KT hF hHeld ⊢
  have cp90:=zp9.c0
  have cp91:=zp9.c1
  have gp90:=zp9.fz 0
  have gp91:=zp9.fz 1
  refine rdy 11 fun K hK => ?_
  go_simp
  refine hK.out _ _ (sS.out _ (KT.set2 hgp9 _ _)) (fun hHeld => ?_)
  clear hK K
  have ep9:=set2_at (x:=(.bool sB)) (y:=(.slice aB kB cB)) cp90 cp91
  have ep8:=And.intro (set2_far (x:=(.bool sB)) (y:=(.slice aB kB cB)) ep8.1 dp9p8) (set2_far (x:=(.bool sB)) (y:=(.slice aB kB cB)) ep8.2 dp9p8)
  have n8:=New.box2 n8 zp9 (.bool sB) (.slice aB kB cB)
  have n9:=New.box2 n9 zp9 (.bool sB) (.slice aB kB cB)
  have KT:=KT.set2 hgp9 (.bool sB) (.slice aB kB cB)
  have hF:=Flag.set2 hF hkp9 (.bool sB) (.slice aB kB cB)
  clear cp90 cp91 gp90 gp91
  generalize ((Ws0.setCell ⟨p9,0,none⟩ (.bool sB)).setCell ⟨p9,1,none⟩ (.slice aB kB cB)) = Ws1 at ep8 ep9  n8 n9 KT hF hHeld ⊢
  have bp8:=Box.mk hF hkp8 ep8.1 ep8.2 n8.sl
  have bp9:=Box.mk hF hkp9 ep9.1 ep9.2 n9.sl
  refine dn ?_
  go_wp2_with fail
  go_meet
  case rel => exact ⟨p8,p9,sA,sB,aA,aB,kA,cA,kB,cB,rfl,rfl,KT,hF,lA,lB,bp8,bp9,H8.out.1,H9.out.1,H8.out.2,H9.out.2⟩
 case rest =>
  obtain ⟨p8,p9,sA,sB,aA,aB,kA,cA,kB,cB,rfl,rfl,HC⟩:=hcut
  obtain ⟨KT,hF,lA,lB,B8,B9,h89⟩:=HC.out
  have H89:=hid h89
  clear h89 HC HE
  have A:=A.mv KT
  have B:=B.mv KT
  have B7:=B7.mv KT
  have KK:=KK.trans KT
  clear KT
  go_upto_region 4 with fail
  go_cut [10] (fun s10 wd => ∃ (p10:Nat) (s7:Bool) (a7:Option Addr) (k7 c7:Nat),s10 = .pointer (some ⟨p10,0,none⟩)/\Hid (KeptK kb wc wd/\Flag wd kb false/\∃ (l7:List Nat),Box kb wd p10 s7 a7 k7 c7 l7/\M.Right s7 l7/\(g:Int) ∣ M.int s7 l7 - FM.S (M.int m an) (M.int n bn) oA oB))
  case first =>
   have KT:KeptK kb wc wc.drew:=KeptK.of (Kept.refl _).drew
   have hF:Flag wc.drew kb false:=Flag.kept hF (Kept.refl _).drew
   have sS:=hidS (fun (V:World) (K:KeptK kb wc V) => And.intro (A.c0 K) (And.intro (A.c1 K) (And.intro (B9.c0 K) (And.intro (B9.c1 K) (And.intro (B7.c0 K) (And.intro (B7.c1 K) (And.intro (B.c0 K) (And.intro (B.c1 K) (And.intro (B8.c0 K) (B8.c1 K))))))))))
   refine wp_region_held_drew (S:=fun w' => w'.cell? ⟨p2,0,none⟩ = some (.bool m)/\w'.cell? ⟨p2,1,none⟩ = some (.slice a1 k1 c1)/\w'.cell? ⟨p9,0,none⟩ = some (.bool sB)/\w'.cell? ⟨p9,1,none⟩ = some (.slice aB kB cB)/\w'.cell? ⟨p7,0,none⟩ = some (.bool false)/\w'.cell? ⟨p7,1,none⟩ = some (.slice ag kg cg)/\w'.cell? ⟨p3,0,none⟩ = some (.bool n)/\w'.cell? ⟨p3,1,none⟩ = some (.slice b1 k3 c3)/\w'.cell? ⟨p8,0,none⟩ = some (.bool sA)/\w'.cell? ⟨p8,1,none⟩ = some (.slice aA kA cA)) (by kernel_rfl) (sS.out _ KT) (fun hHeld => ?_)
   generalize wc.drew = Wd at KT hF hHeld ⊢
   refine wk 0 hHeld ?_
   refine wk 1 hHeld ?_
   refine wk 2 hHeld ?_
   refine wk 3 hHeld ?_
   refine wk 5 hHeld ?_
   refine wk 6 hHeld ?_
   refine wk 7 hHeld ?_
   refine wk 8 hHeld ?_
   refine wk 10 hHeld ?_
   refine wpAnyH_ready (rs:=[4,12]) (by kernel_rfl) (by simp) ?_
   refine AllReadyH.cons rfl (fun K hK => ?_) ?_
   ·
    go_simp
    refine (mulModulo_r kb false m sB (.slice a1 k1 c1) (.slice aB kB cB) (.slice ag kg cg) an lB lg _ hF (A.sn KT) (B9.sl KT) (B7.sl KT) HR.out.1 (R.of_right H89.out.2.1) (R.of_right HG.out.1) HG.out.2.2).mono ?_
    rintro e w5 ⟨hk5,x5,s5,a5,k5,c5,l5,rfl,hF5,n5,r5,hx5,hy5⟩
    obtain rfl:x5 = false:=hy5 rfl (by rw [HG.out.2.1,H89.out.2.2.2]; exact HW.out.1)
    have H5:=hid (And.intro r5 (hx5 rfl).2)
    clear r5 hx5 hy5
    refine hK.out _ _ (sS.out _ (KT.trans hk5)) (fun hHeld => ?_)
    clear hK K
    have KT:=(KT.trans hk5)
    have hF:=hF5
    refine wpAnyH_ready (rs:=[9,12]) (by kernel_rfl) (by simp) ?_
    refine AllReadyH.cons rfl (fun K hK => ?_) ?_
    ·
     go_simp
     refine (mulModulo_r kb false n sA (.slice b1 k3 c3) (.slice aA kA cA) (.slice ag kg cg) bn lA lg _ hF (B.sn KT) (B8.sl KT) (B7.sl KT) HR.out.2.2.1 (R.of_right H89.out.1) (R.of_right HG.out.1) HG.out.2.2).mono ?_
     rintro e w6 ⟨hk6,x6,s6,a6,k6,c6,l6,rfl,hF6,n6,r6,hx6,hy6⟩
     obtain rfl:x6 = false:=hy6 rfl (by rw [HG.out.2.1,H89.out.2.2.1]; exact HW.out.2.1)
     have H6:=hid (And.intro r6 (hx6 rfl).2)
     clear r6 hx6 hy6
     refine hK.out _ _ (sS.out _ (KT.trans hk6)) (fun hHeld => ?_)
     clear hK K
     have n5:=New.keptK hF n5 hk6
     have KT:=(KT.trans hk6)
     have hF:=hF6
     refine wpAnyH_ready (rs:=[11,12]) (by kernel_rfl) (by simp) ?_
     refine AllReadyH.cons rfl (fun K hK => ?_) ?_
     ·
      go_simp
      refine (addModulo_q kb false s5 s6 a5 a6 ag k5 c5 k6 c6 kg cg l5 l6 lg _ hF n5.sl n6.sl (B7.sl KT) (R.of_right H5.out.1) (R.of_right H6.out.1) (R.of_right HG.out.1) HG.out.2.2).mono ?_
      rintro e w7 ⟨hk7,x7,s7,a7,k7,c7,l7,rfl,hF7,n7,r7,hx7,hy7⟩
      obtain rfl:x7 = false:=hy7 rfl (by rw [H5.out.2,HG.out.2.1,HV.out]; exact FM.tmod_lt HP.out.g0) (by rw [H6.out.2,HG.out.2.1,HV.out]; exact FM.tmod_lt HP.out.g0) (by rw [HV.out]; exact HW.out.2.2)
      have H7:=hid (And.intro r7 (hx7 rfl).2)
      clear r7 hx7 hy7
      refine hK.out _ _ (sS.out _ (KT.trans hk7)) (fun hHeld => ?_)
      clear hK K
      have n5:=New.keptK hF n5 hk7
      have n6:=New.keptK hF n6 hk7
      have KT:=(KT.trans hk7)
      have hF:=hF7
      refine rdy 12 fun K hK => ?_
      go_simp
      refine hK.out _ _ (sS.out _ (KT.then ((Kept.refl w7).alloc _))) (fun hHeld => ?_)
      clear hK K
      have zp10:ZBox (w7.alloc (.cells #[.bool false,.slice none 0 0] 27)) w7.heap.size:=ZBox.alloc _
      have hkp10:w7.heap.size ≠ kb:=by have:=hF.lt; omega
      have hgp10:wc.heap.size<=w7.heap.size:=KT.size
      have n5:=New.kept n5 ((Kept.refl w7).alloc (.cells #[.bool false,.slice none 0 0] 27))
      have n6:=New.kept n6 ((Kept.refl w7).alloc (.cells #[.bool false,.slice none 0 0] 27))
      have n7:=New.kept n7 ((Kept.refl w7).alloc (.cells #[.bool false,.slice none 0 0] 27))
      have KT:=KT.then ((Kept.refl w7).alloc (.cells #[.bool false,.slice none 0 0] 27))
      have hF:=Flag.kept hF ((Kept.refl w7).alloc (.cells #[.bool false,.slice none 0 0] 27))
      obtain ⟨p10,hpp10⟩:∃ p,p = w7.heap.size:=⟨_,rfl⟩
      rw [<- hpp10] at zp10 hkp10 hgp10  ⊢
      generalize w7.alloc (.cells #[.bool false,.slice none 0 0] 27) = Wa12 at zp10  n5 n6 n7 KT hF hHeld ⊢
      clear hpp10
      have cp100:=zp10.c0
      have cp101:=zp10.c1
      have gp100:=zp10.fz 0
      have gp101:=zp10.fz 1
      refine rdy 13 fun K hK => ?_
      go_simp
      refine hK.out _ _ (sS.out _ (KT.set2 hgp10 _ _)) (fun hHeld => ?_)
      clear hK K
      have ep10:=set2_at (x:=(.bool s7)) (y:=(.slice a7 k7 c7)) cp100 cp101
      have n5:=New.box2 n5 zp10 (.bool s7) (.slice a7 k7 c7)
      have n6:=New.box2 n6 zp10 (.bool s7) (.slice a7 k7 c7)
      have n7:=New.box2 n7 zp10 (.bool s7) (.slice a7 k7 c7)
      have KT:=KT.set2 hgp10 (.bool s7) (.slice a7 k7 c7)
      have hF:=Flag.set2 hF hkp10 (.bool s7) (.slice a7 k7 c7)
      clear cp100 cp101 gp100 gp101
      generalize ((Wa12.setCell ⟨p10,0,none⟩ (.bool s7)).setCell ⟨p10,1,none⟩ (.slice a7 k7 c7)) = Ws0 at ep10  n5 n6 n7 KT hF hHeld ⊢
      have bp10:=Box.mk hF hkp10 ep10.1 ep10.2 n7.sl
      refine dn ?_
      go_wp2_with fail
      go_meet
      case rel => exact ⟨p10,s7,a7,k7,c7,rfl,KT,hF,l7,bp10,H7.out.1,by have h:=H7.out.2; rw [H5.out.2,H6.out.2,HG.out.2.1,H89.out.2.2.1,H89.out.2.2.2,HV.out] at h; exact FM.left_cong h⟩
     refine AllReadyH.cons rfl (fun K hK => ?_) AllReadyH.nil
     go_simp
     refine hK.out _ _ (sS.out _ (KT.then ((Kept.refl w6).alloc _))) (fun hHeld => ?_)
     clear hK K
     have zp10:ZBox (w6.alloc (.cells #[.bool false,.slice none 0 0] 27)) w6.heap.size:=ZBox.alloc _
     have hkp10:w6.heap.size ≠ kb:=by have:=hF.lt; omega
     have hgp10:wc.heap.size<=w6.heap.size:=KT.size
     have n5:=New.kept n5 ((Kept.refl w6).alloc (.cells #[.bool false,.slice none 0 0] 27))
     have n6:=New.kept n6 ((Kept.refl w6).alloc (.cells #[.bool false,.slice none 0 0] 27))
     have KT:=KT.then ((Kept.refl w6).alloc (.cells #[.bool false,.slice none 0 0] 27))
     have hF:=Flag.kept hF ((Kept.refl w6).alloc (.cells #[.bool false,.slice none 0 0] 27))
     obtain ⟨p10,hpp10⟩:∃ p,p = w6.heap.size:=⟨_,rfl⟩
     rw [<- hpp10] at zp10 hkp10 hgp10  ⊢
     generalize w6.alloc (.cells #[.bool false,.slice none 0 0] 27) = Wa12 at zp10  n5 n6 KT hF hHeld ⊢
     clear hpp10
     refine rdy 11 fun K hK => ?_
     go_simp
     refine (addModulo_q kb false s5 s6 a5 a6 ag k5 c5 k6 c6 kg cg l5 l6 lg _ hF n5.sl n6.sl (B7.sl KT) (R.of_right H5.out.1) (R.of_right H6.out.1) (R.of_right HG.out.1) HG.out.2.2).mono ?_
     rintro e w7 ⟨hk7,x7,s7,a7,k7,c7,l7,rfl,hF7,n7,r7,hx7,hy7⟩
     obtain rfl:x7 = false:=hy7 rfl (by rw [H5.out.2,HG.out.2.1,HV.out]; exact FM.tmod_lt HP.out.g0) (by rw [H6.out.2,HG.out.2.1,HV.out]; exact FM.tmod_lt HP.out.g0) (by rw [HV.out]; exact HW.out.2.2)
     have H7:=hid (And.intro r7 (hx7 rfl).2)
     clear r7 hx7 hy7
     refine hK.out _ _ (sS.out _ (KT.trans hk7)) (fun hHeld => ?_)
     clear hK K
     have zp10:=zp10.keptK hkp10 hk7
     have n5:=New.keptK hF n5 hk7
     have n6:=New.keptK hF n6 hk7
     have KT:=(KT.trans hk7)
     have hF:=hF7
     have cp100:=zp10.c0
     have cp101:=zp10.c1
     have gp100:=zp10.fz 0
     have gp101:=zp10.fz 1
     refine rdy 13 fun K hK => ?_
     go_simp
     refine hK.out _ _ (sS.out _ (KT.set2 hgp10 _ _)) (fun hHeld => ?_)
     clear hK K
     have ep10:=set2_at (x:=(.bool s7)) (y:=(.slice a7 k7 c7)) cp100 cp101
     have n5:=New.box2 n5 zp10 (.bool s7) (.slice a7 k7 c7)
     have n6:=New.box2 n6 zp10 (.bool s7) (.slice a7 k7 c7)
     have n7:=New.box2 n7 zp10 (.bool s7) (.slice a7 k7 c7)
     have KT:=KT.set2 hgp10 (.bool s7) (.slice a7 k7 c7)
     have hF:=Flag.set2 hF hkp10 (.bool s7) (.slice a7 k7 c7)
     clear cp100 cp101 gp100 gp101
     generalize ((w7.setCell ⟨p10,0,none⟩ (.bool s7)).setCell ⟨p10,1,none⟩ (.slice a7 k7 c7)) = Ws0 at ep10  n5 n6 n7 KT hF hHeld ⊢
     have bp10:=Box.mk hF hkp10 ep10.1 ep10.2 n7.sl
     refine dn ?_
     go_wp2_with fail
     go_meet
     case rel => exact ⟨p10,s7,a7,k7,c7,rfl,KT,hF,l7,bp10,H7.out.1,by have h:=H7.out.2; rw [H5.out.2,H6.out.2,HG.out.2.1,H89.out.2.2.1,H89.out.2.2.2,HV.out] at h; exact FM.left_cong h⟩
    refine AllReadyH.cons rfl (fun K hK => ?_) AllReadyH.nil
    go_simp
    refine hK.out _ _ (sS.out _ (KT.then ((Kept.refl w5).alloc _))) (fun hHeld => ?_)
    clear hK K
    have zp10:ZBox (w5.alloc (.cells #[.bool false,.slice none 0 0] 27)) w5.heap.size:=ZBox.alloc _
    have hkp10:w5.heap.size ≠ kb:=by have:=hF.lt; omega
    have hgp10:wc.heap.size<=w5.heap.size:=KT.size
    have n5:=New.kept n5 ((Kept.refl w5).alloc (.cells #[.bool false,.slice none 0 0] 27))
    have KT:=KT.then ((Kept.refl w5).alloc (.cells #[.bool false,.slice none 0 0] 27))
    have hF:=Flag.kept hF ((Kept.refl w5).alloc (.cells #[.bool false,.slice none 0 0] 27))
    obtain ⟨p10,hpp10⟩:∃ p,p = w5.heap.size:=⟨_,rfl⟩
    rw [<- hpp10] at zp10 hkp10 hgp10  ⊢
    generalize w5.alloc (.cells #[.bool false,.slice none 0 0] 27) = Wa12 at zp10  n5 KT hF hHeld ⊢
    clear hpp10
    refine rdy 9 fun K hK => ?_
    go_simp
    refine (mulModulo_r kb false n sA (.slice b1 k3 c3) (.slice aA kA cA) (.slice ag kg cg) bn lA lg _ hF (B.sn KT) (B8.sl KT) (B7.sl KT) HR.out.2.2.1 (R.of_right H89.out.1) (R.of_right HG.out.1) HG.out.2.2).mono ?_
    rintro e w6 ⟨hk6,x6,s6,a6,k6,c6,l6,rfl,hF6,n6,r6,hx6,hy6⟩
    obtain rfl:x6 = false:=hy6 rfl (by rw [HG.out.2.1,H89.out.2.2.1]; exact HW.out.2.1)
    have H6:=hid (And.intro r6 (hx6 rfl).2)
    clear r6 hx6 hy6
    refine hK.out _ _ (sS.out _ (KT.trans hk6)) (fun hHeld => ?_)
    clear hK K
    have zp10:=zp10.keptK hkp10 hk6
    have n5:=New.keptK hF n5 hk6
    have KT:=(KT.trans hk6)
    have hF:=hF6
    refine rdy 11 fun K hK => ?_
    go_simp
    refine (addModulo_q kb false s5 s6 a5 a6 ag k5 c5 k6 c6 kg cg l5 l6 lg _ hF n5.sl n6.sl (B7.sl KT) (R.of_right H5.out.1) (R.of_right H6.out.1) (R.of_right HG.out.1) HG.out.2.2).mono ?_
    rintro e w7 ⟨hk7,x7,s7,a7,k7,c7,l7,rfl,hF7,n7,r7,hx7,hy7⟩
    obtain rfl:x7 = false:=hy7 rfl (by rw [H5.out.2,HG.out.2.1,HV.out]; exact FM.tmod_lt HP.out.g0) (by rw [H6.out.2,HG.out.2.1,HV.out]; exact FM.tmod_lt HP.out.g0) (by rw [HV.out]; exact HW.out.2.2)
    have H7:=hid (And.intro r7 (hx7 rfl).2)
    clear r7 hx7 hy7
    refine hK.out _ _ (sS.out _ (KT.trans hk7)) (fun hHeld => ?_)
    clear hK K
    have zp10:=zp10.keptK hkp10 hk7
    have n5:=New.keptK hF n5 hk7
    have n6:=New.keptK hF n6 hk7
    have KT:=(KT.trans hk7)
    have hF:=hF7
    have cp100:=zp10.c0
    have cp101:=zp10.c1
    have gp100:=zp10.fz 0
    have gp101:=zp10.fz 1
    refine rdy 13 fun K hK => ?_
    go_simp
    refine hK.out _ _ (sS.out _ (KT.set2 hgp10 _ _)) (fun hHeld => ?_)
    clear hK K
    have ep10:=set2_at (x:=(.bool s7)) (y:=(.slice a7 k7 c7)) cp100 cp101
    have n5:=New.box2 n5 zp10 (.bool s7) (.slice a7 k7 c7)
    have n6:=New.box2 n6 zp10 (.bool s7) (.slice a7 k7 c7)
    have n7:=New.box2 n7 zp10 (.bool s7) (.slice a7 k7 c7)
    have KT:=KT.set2 hgp10 (.bool s7) (.slice a7 k7 c7)
    have hF:=Flag.set2 hF hkp10 (.bool s7) (.slice a7 k7 c7)
    clear cp100 cp101 gp100 gp101
    generalize ((w7.setCell ⟨p10,0,none⟩ (.bool s7)).setCell ⟨p10,1,none⟩ (.slice a7 k7 c7)) = Ws0 at ep10  n5 n6 n7 KT hF hHeld ⊢
    have bp10:=Box.mk hF hkp10 ep10.1 ep10.2 n7.sl
    refine dn ?_
    go_wp2_with fail
    go_meet
    case rel => exact ⟨p10,s7,a7,k7,c7,rfl,KT,hF,l7,bp10,H7.out.1,by have h:=H7.out.2; rw [H5.out.2,H6.out.2,HG.out.2.1,H89.out.2.2.1,H89.out.2.2.2,HV.out] at h; exact FM.left_cong h⟩
   refine AllReadyH.cons rfl (fun K hK => ?_) AllReadyH.nil
   go_simp
   refine hK.out _ _ (sS.out _ (KT.then ((Kept.refl Wd).alloc _))) (fun hHeld => ?_)
   clear hK K
   have zp10:ZBox (Wd.alloc (.cells #[.bool false,.slice none 0 0] 27)) Wd.heap.size:=ZBox.alloc _
   have hkp10:Wd.heap.size ≠ kb:=by have:=hF.lt; omega
   have hgp10:wc.heap.size<=Wd.heap.size:=KT.size
   have KT:=KT.then ((Kept.refl Wd).alloc (.cells #[.bool false,.slice none 0 0] 27))
   have hF:=Flag.kept hF ((Kept.refl Wd).alloc (.cells #[.bool false,.slice none 0 0] 27))
   obtain ⟨p10,hpp10⟩:∃ p,p = Wd.heap.size:=⟨_,rfl⟩
   rw [<- hpp10] at zp10 hkp10 hgp10  ⊢
   generalize Wd.alloc (.cells #[.bool false,.slice none 0 0] 27) = Wa12 at zp10   KT hF hHeld ⊢
   clear hpp10
   refine rdy 4 fun K hK => ?_
   go_simp
   refine (mulModulo_r kb false m sB (.slice a1 k1 c1) (.slice aB kB cB) (.slice ag kg cg) an lB lg _ hF (A.sn KT) (B9.sl KT) (B7.sl KT) HR.out.1 (R.of_right H89.out.2.1) (R.of_right HG.out.1) HG.out.2.2).mono ?_
   rintro e w5 ⟨hk5,x5,s5,a5,k5,c5,l5,rfl,hF5,n5,r5,hx5,hy5⟩
   obtain rfl:x5 = false:=hy5 rfl (by rw [HG.out.2.1,H89.out.2.2.2]; exact HW.out.1)
   have H5:=hid (And.intro r5 (hx5 rfl).2)
   clear r5 hx5 hy5
   refine hK.out _ _ (sS.out _ (KT.trans hk5)) (fun hHeld => ?_)
   clear hK K
   have zp10:=zp10.keptK hkp10 hk5
   have KT:=(KT.trans hk5)
   have hF:=hF5
   refine rdy 9 fun K hK => ?_
   go_simp
   refine (mulModulo_r kb false n sA (.slice b1 k3 c3) (.slice aA kA cA) (.slice ag kg cg) bn lA lg _ hF (B.sn KT) (B8.sl KT) (B7.sl KT) HR.out.2.2.1 (R.of_right H89.out.1) (R.of_right HG.out.1) HG.out.2.2).mono ?_
   rintro e w6 ⟨hk6,x6,s6,a6,k6,c6,l6,rfl,hF6,n6,r6,hx6,hy6⟩
   obtain rfl:x6 = false:=hy6 rfl (by rw [HG.out.2.1,H89.out.2.2.1]; exact HW.out.2.1)
   have H6:=hid (And.intro r6 (hx6 rfl).2)
   clear r6 hx6 hy6
   refine hK.out _ _ (sS.out _ (KT.trans hk6)) (fun hHeld => ?_)
   clear hK K
   have zp10:=zp10.keptK hkp10 hk6
   have n5:=New.keptK hF n5 hk6
   have KT:=(KT.trans hk6)
   have hF:=hF6
   refine rdy 11 fun K hK => ?_
   go_simp
   refine (addModulo_q kb false s5 s6 a5 a6 ag k5 c5 k6 c6 kg cg l5 l6 lg _ hF n5.sl n6.sl (B7.sl KT) (R.of_right H5.out.1) (R.of_right H6.out.1) (R.of_right HG.out.1) HG.out.2.2).mono ?_
   rintro e w7 ⟨hk7,x7,s7,a7,k7,c7,l7,rfl,hF7,n7,r7,hx7,hy7⟩
   obtain rfl:x7 = false:=hy7 rfl (by rw [H5.out.2,HG.out.2.1,HV.out]; exact FM.tmod_lt HP.out.g0) (by rw [H6.out.2,HG.out.2.1,HV.out]; exact FM.tmod_lt HP.out.g0) (by rw [HV.out]; exact HW.out.2.2)
   have H7:=hid (And.intro r7 (hx7 rfl).2)
   clear r7 hx7 hy7
   refine hK.out _ _ (sS.out _ (KT.trans hk7)) (fun hHeld => ?_)
   clear hK K
   have zp10:=zp10.keptK hkp10 hk7
   have n5:=New.keptK hF n5 hk7
   have n6:=New.keptK hF n6 hk7
   have KT:=(KT.trans hk7)
   have hF:=hF7
   have cp100:=zp10.c0
   have cp101:=zp10.c1
   have gp100:=zp10.fz 0
   have gp101:=zp10.fz 1
   refine rdy 13 fun K hK => ?_
   go_simp
   refine hK.out _ _ (sS.out _ (KT.set2 hgp10 _ _)) (fun hHeld => ?_)
   clear hK K
   have ep10:=set2_at (x:=(.bool s7)) (y:=(.slice a7 k7 c7)) cp100 cp101
   have n5:=New.box2 n5 zp10 (.bool s7) (.slice a7 k7 c7)
   have n6:=New.box2 n6 zp10 (.bool s7) (.slice a7 k7 c7)
   have n7:=New.box2 n7 zp10 (.bool s7) (.slice a7 k7 c7)
   have KT:=KT.set2 hgp10 (.bool s7) (.slice a7 k7 c7)
   have hF:=Flag.set2 hF hkp10 (.bool s7) (.slice a7 k7 c7)
   clear cp100 cp101 gp100 gp101
   generalize ((w7.setCell ⟨p10,0,none⟩ (.bool s7)).setCell ⟨p10,1,none⟩ (.slice a7 k7 c7)) = Ws0 at ep10  n5 n6 n7 KT hF hHeld ⊢
   have bp10:=Box.mk hF hkp10 ep10.1 ep10.2 n7.sl
   refine dn ?_
   go_wp2_with fail
   go_meet
   case rel => exact ⟨p10,s7,a7,k7,c7,rfl,KT,hF,l7,bp10,H7.out.1,by have h:=H7.out.2; rw [H5.out.2,H6.out.2,HG.out.2.1,H89.out.2.2.1,H89.out.2.2.2,HV.out] at h; exact FM.left_cong h⟩
  case rest =>
   obtain ⟨p10,s7,a7,k7,c7,rfl,HC⟩:=hcut
   obtain ⟨KT,hF,l7,B10,h10⟩:=HC.out
   have H10:=hid h10
   clear h10 HC HW
   have A:=A.mv KT
   have B:=B.mv KT
   have B7:=B7.mv KT
   have B8:=B8.mv KT
   have B9:=B9.mv KT
   have KK:=KK.trans KT
   clear KT
   have q0:=B10.c0 (KeptK.refl kb wc)
   have q1:=B10.c1 (KeptK.refl kb wc)
   have q2:=B7.c0 (KeptK.refl kb wc)
   have q3:=B7.c1 (KeptK.refl kb wc)
   go_wp2_with fail
   refine (gcd_r s7 false (.slice a7 k7 c7) (.slice ag kg cg) l7 lg _ (B10.sl (KeptK.refl _ _)) (B7.sl (KeptK.refl _ _)) (R.of_right H10.out.1) (R.of_right HG.out.1)).mono ?_
   rintro e w8 ⟨hk8,s8,a8,k8,c8,lt,rfl,n8,r8,v8⟩
   rw [HV.out,<- M.natAbs_int s7 l7,FM.gcd_left H10.out.2,<- HT0.out.1] at v8
   obtain rfl:s8 = false:=pos_false r8 (by rw [v8]; have:=HT0.out.2.1; omega)
   have HT:Hid (M.Right false lt/\M.int false lt = (t:Int)/\0 < lt.length):=⟨r8,v8,len_pos (s:=false) (by rw [v8]; have:=HT0.out.2.1; omega)⟩
   have HQ:Hid (((g' * oB:Nat):Int) * M.int false lt = M.int false bd):=by
    show _ = _
    rw [v8,HD.out.2.1,den_cast,HT0.out.2.2.1]
    congr 1
    simp only [Nat.mul_comm,Nat.mul_left_comm]
   clear r8 v8 HV
   clear q0 q1 q2 q3
   go_upto_region 6 with fail
   have hK:Kept w8 (w8.alloc (.cells #[.bool false,.slice a8 k8 c8] 27)):=(Kept.refl w8).alloc _
   have hY:=box_kept (Kept.refl (w8.alloc (.cells #[.bool false,.slice a8 k8 c8] 27)))
   have KT:KeptK kb wc (w8.alloc (.cells #[.bool false,.slice a8 k8 c8] 27)):=(KeptK.of hk8).then hK
   have hs:=hF.lt
   have hs':wc.heap.size<=w8.heap.size:=hk8.size
   have hF:=Flag.kept (hF.kept hk8) hK
   have n8:=New.kept n8 hK
   generalize w8.alloc (.cells #[.bool false,.slice a8 k8 c8] 27) = W6 at hK hY KT hF n8 ⊢
   obtain ⟨hy0,hy1⟩:=hY
   obtain ⟨p11,hp11⟩:∃ p,p = w8.heap.size:=⟨_,rfl⟩
   rw [<- hp11] at hy0 hy1 hs' ⊢
   have B11:=Box.mk hF (show p11 ≠ kb by omega) hy0 hy1 n8.sl
   have A:=A.mv KT
   have B:=B.mv KT
   have B8:=B8.mv KT
   have B9:=B9.mv KT
   have KK:=KK.trans KT
   have HS6:Hid (W.heap.size<=W6.heap.size):=KK.size
   clear hK hy0 hy1 hp11 hs hs' KT hk8 n8 B7 B10 HG
   go_cut [12] (fun s12 wd => ∃ (p12:Nat) (a10:Option Addr) (k10 c10:Nat),s12 = .pointer (some ⟨p12,0,none⟩)/\Hid (KeptK kb W6 wd/\∃ (x10:Bool) (l10:List Nat),Flag wd kb x10/\Box kb wd p12 false a10 k10 c10 l10/\New W.heap.size wd (.slice a10 k10 c10) l10/\M.Right false l10/\(x10 = false->M.int false l10 = ((oA * (g' * oB):Nat):Int))/\((((oA * (g' * oB):Nat):Int)).natAbs < M.W72->x10 = false)/\W6.heap.size<=p12))
   case first =>
    have KT:KeptK kb W6 W6.drew:=KeptK.of (Kept.refl _).drew
    have hF:Flag W6.drew kb false:=Flag.kept hF (Kept.refl _).drew
    have sS:=hidS (fun (V:World) (K:KeptK kb W6 V) => And.intro (B8.c0 K) (And.intro (B8.c1 K) (And.intro (B.c2 K) (And.intro (B.c3 K) (And.intro (B11.c0 K) (B11.c1 K))))))
    refine wp_region_held_drew (S:=fun w' => w'.cell? ⟨p8,0,none⟩ = some (.bool sA)/\w'.cell? ⟨p8,1,none⟩ = some (.slice aA kA cA)/\w'.cell? ⟨p3,2,none⟩ = some (.bool false)/\w'.cell? ⟨p3,3,none⟩ = some (.slice b2 k4 c4)/\w'.cell? ⟨p11,0,none⟩ = some (.bool false)/\w'.cell? ⟨p11,1,none⟩ = some (.slice a8 k8 c8)) (by kernel_rfl) (sS.out _ KT) (fun hHeld => ?_)
    generalize W6.drew = Wd at KT hF hHeld ⊢
    refine wk 0 hHeld ?_
    refine wk 1 hHeld ?_
    refine wk 2 hHeld ?_
    refine wk 3 hHeld ?_
    refine wpAnyH_ready (rs:=[4,6]) (by kernel_rfl) (by simp) ?_
    refine AllReadyH.cons rfl (fun K hK => ?_) ?_
    ·
     go_simp
     refine (exact_r false false (.slice b2 k4 c4) (.slice a8 k8 c8) bd lt ((g' * oB:Nat):Int) _ (B.sd KT) (B11.sl KT) HR.out.2.2.2 (R.of_right HT.out.1) HT.out.2.2 HQ.out).mono ?_
     rintro e w9 ⟨hk9,s9,a9,k9,c9,l9,rfl,n9,r9,v9⟩
     have H9:=hid (And.intro r9 v9)
     clear r9 v9
     refine hK.out _ _ (sS.out _ (KT.then hk9)) (fun hHeld => ?_)
     clear hK K
     have KT:=(KT.then hk9)
     have hF:=Flag.kept hF hk9
     refine wpAnyH_ready (rs:=[5,6]) (by kernel_rfl) (by simp) ?_
     refine AllReadyH.cons rfl (fun K hK => ?_) ?_
     ·
      go_simp
      refine (mul_q kb false sA s9 (.slice aA kA cA) (.slice a9 k9 c9) lA l9 _ hF (B8.sl KT) n9.sl (R.of_right H89.out.1) (R.of_right H9.out.1)).mono ?_
      rintro e w10 ⟨hk10,x10,s10,a10,k10,c10,l10,rfl,hF10,n10,r10,hx10,hy10,_,hz10⟩
      rw [H89.out.2.2.1,H9.out.2,den_cast] at hx10 hy10 hz10
      obtain rfl:s10 = false:=den_sign r10 hz10 HT0.out.2.2.2.2
      have n10:=n10.mono (Nat.le_trans KK.size KT.size)
      have H10:=hid (And.intro r10 (And.intro (fun h => (hx10 h).2) (hy10 rfl)))
      clear r10 hx10 hy10 hz10
      refine hK.out _ _ (sS.out _ (KT.trans hk10)) (fun hHeld => ?_)
      clear hK K
      have n9:=New.keptK hF n9 hk10
      have KT:=(KT.trans hk10)
      have hF:=hF10
      refine rdy 6 fun K hK => ?_
      go_simp
      refine hK.out _ _ (sS.out _ (KT.then ((Kept.refl w10).alloc _))) (fun hHeld => ?_)
      clear hK K
      have zp12:ZBox (w10.alloc (.cells #[.bool false,.slice none 0 0] 27)) w10.heap.size:=ZBox.alloc _
      have hkp12:w10.heap.size ≠ kb:=by have:=hF.lt; omega
      have hgp12:W6.heap.size<=w10.heap.size:=KT.size
      have n9:=New.kept n9 ((Kept.refl w10).alloc (.cells #[.bool false,.slice none 0 0] 27))
      have n10:=New.kept n10 ((Kept.refl w10).alloc (.cells #[.bool false,.slice none 0 0] 27))
      have KT:=KT.then ((Kept.refl w10).alloc (.cells #[.bool false,.slice none 0 0] 27))
      have hF:=Flag.kept hF ((Kept.refl w10).alloc (.cells #[.bool false,.slice none 0 0] 27))
      obtain ⟨p12,hpp12⟩:∃ p,p = w10.heap.size:=⟨_,rfl⟩
      rw [<- hpp12] at zp12 hkp12 hgp12  ⊢
      generalize w10.alloc (.cells #[.bool false,.slice none 0 0] 27) = Wa6 at zp12  n9 n10 KT hF hHeld ⊢
      clear hpp12
      have cp120:=zp12.c0
      have cp121:=zp12.c1
      have gp120:=zp12.fz 0
      have gp121:=zp12.fz 1
      refine rdy 7 fun K hK => ?_
      go_simp
      refine hK.out _ _ (sS.out _ (KT.set2 hgp12 _ _)) (fun hHeld => ?_)
      clear hK K
      have ep12:=set2_at (x:=(.bool false)) (y:=(.slice a10 k10 c10)) cp120 cp121
      have n9:=New.box2 n9 zp12 (.bool false) (.slice a10 k10 c10)
      have n10:=New.box2 n10 zp12 (.bool false) (.slice a10 k10 c10)
      have KT:=KT.set2 hgp12 (.bool false) (.slice a10 k10 c10)
      have hF:=Flag.set2 hF hkp12 (.bool false) (.slice a10 k10 c10)
      clear cp120 cp121 gp120 gp121
      generalize ((Wa6.setCell ⟨p12,0,none⟩ (.bool false)).setCell ⟨p12,1,none⟩ (.slice a10 k10 c10)) = Ws0 at ep12  n9 n10 KT hF hHeld ⊢
      have bp12:=Box.mk hF hkp12 ep12.1 ep12.2 n10.sl
      refine dn ?_
      go_wp2_with fail
      go_meet
      case rel => exact ⟨p12,a10,k10,c10,rfl,KT,x10,l10,hF,bp12,n10,H10.out.1,H10.out.2.1,H10.out.2.2,hgp12⟩
     refine AllReadyH.cons rfl (fun K hK => ?_) AllReadyH.nil
     go_simp
     refine hK.out _ _ (sS.out _ (KT.then ((Kept.refl w9).alloc _))) (fun hHeld => ?_)
     clear hK K
     have zp12:ZBox (w9.alloc (.cells #[.bool false,.slice none 0 0] 27)) w9.heap.size:=ZBox.alloc _
     have hkp12:w9.heap.size ≠ kb:=by have:=hF.lt; omega
     have hgp12:W6.heap.size<=w9.heap.size:=KT.size
     have n9:=New.kept n9 ((Kept.refl w9).alloc (.cells #[.bool false,.slice none 0 0] 27))
     have KT:=KT.then ((Kept.refl w9).alloc (.cells #[.bool false,.slice none 0 0] 27))
     have hF:=Flag.kept hF ((Kept.refl w9).alloc (.cells #[.bool false,.slice none 0 0] 27))
     obtain ⟨p12,hpp12⟩:∃ p,p = w9.heap.size:=⟨_,rfl⟩
     rw [<- hpp12] at zp12 hkp12 hgp12  ⊢
     generalize w9.alloc (.cells #[.bool false,.slice none 0 0] 27) = Wa6 at zp12  n9 KT hF hHeld ⊢
     clear hpp12
     refine rdy 5 fun K hK => ?_
     go_simp
     refine (mul_q kb false sA s9 (.slice aA kA cA) (.slice a9 k9 c9) lA l9 _ hF (B8.sl KT) n9.sl (R.of_right H89.out.1) (R.of_right H9.out.1)).mono ?_
     rintro e w10 ⟨hk10,x10,s10,a10,k10,c10,l10,rfl,hF10,n10,r10,hx10,hy10,_,hz10⟩
     rw [H89.out.2.2.1,H9.out.2,den_cast] at hx10 hy10 hz10
     obtain rfl:s10 = false:=den_sign r10 hz10 HT0.out.2.2.2.2
     have n10:=n10.mono (Nat.le_trans KK.size KT.size)
     have H10:=hid (And.intro r10 (And.intro (fun h => (hx10 h).2) (hy10 rfl)))
     clear r10 hx10 hy10 hz10
     refine hK.out _ _ (sS.out _ (KT.trans hk10)) (fun hHeld => ?_)
     clear hK K
     have zp12:=zp12.keptK hkp12 hk10
     have n9:=New.keptK hF n9 hk10
     have KT:=(KT.trans hk10)
     have hF:=hF10
     have cp120:=zp12.c0
     have cp121:=zp12.c1
     have gp120:=zp12.fz 0
     have gp121:=zp12.fz 1
     refine rdy 7 fun K hK => ?_
     go_simp
     refine hK.out _ _ (sS.out _ (KT.set2 hgp12 _ _)) (fun hHeld => ?_)
     clear hK K
     have ep12:=set2_at (x:=(.bool false)) (y:=(.slice a10 k10 c10)) cp120 cp121
     have n9:=New.box2 n9 zp12 (.bool false) (.slice a10 k10 c10)
     have n10:=New.box2 n10 zp12 (.bool false) (.slice a10 k10 c10)
     have KT:=KT.set2 hgp12 (.bool false) (.slice a10 k10 c10)
     have hF:=Flag.set2 hF hkp12 (.bool false) (.slice a10 k10 c10)
     clear cp120 cp121 gp120 gp121
     generalize ((w10.setCell ⟨p12,0,none⟩ (.bool false)).setCell ⟨p12,1,none⟩ (.slice a10 k10 c10)) = Ws0 at ep12  n9 n10 KT hF hHeld ⊢
     have bp12:=Box.mk hF hkp12 ep12.1 ep12.2 n10.sl
     refine dn ?_
     go_wp2_with fail
     go_meet
     case rel => exact ⟨p12,a10,k10,c10,rfl,KT,x10,l10,hF,bp12,n10,H10.out.1,H10.out.2.1,H10.out.2.2,hgp12⟩
    refine AllReadyH.cons rfl (fun K hK => ?_) AllReadyH.nil
    go_simp
    refine hK.out _ _ (sS.out _ (KT.then ((Kept.refl Wd).alloc _))) (fun hHeld => ?_)
    clear hK K
    have zp12:ZBox (Wd.alloc (.cells #[.bool false,.slice none 0 0] 27)) Wd.heap.size:=ZBox.alloc _
    have hkp12:Wd.heap.size ≠ kb:=by have:=hF.lt; omega
    have hgp12:W6.heap.size<=Wd.heap.size:=KT.size
    have KT:=KT.then ((Kept.refl Wd).alloc (.cells #[.bool false,.slice none 0 0] 27))
    have hF:=Flag.kept hF ((Kept.refl Wd).alloc (.cells #[.bool false,.slice none 0 0] 27))
    obtain ⟨p12,hpp12⟩:∃ p,p = Wd.heap.size:=⟨_,rfl⟩
    rw [<- hpp12] at zp12 hkp12 hgp12  ⊢
    generalize Wd.alloc (.cells #[.bool false,.slice none 0 0] 27) = Wa6 at zp12   KT hF hHeld ⊢
    clear hpp12
    refine rdy 4 fun K hK => ?_
    go_simp
    refine (exact_r false false (.slice b2 k4 c4) (.slice a8 k8 c8) bd lt ((g' * oB:Nat):Int) _ (B.sd KT) (B11.sl KT) HR.out.2.2.2 (R.of_right HT.out.1) HT.out.2.2 HQ.out).mono ?_
    rintro e w9 ⟨hk9,s9,a9,k9,c9,l9,rfl,n9,r9,v9⟩
    have H9:=hid (And.intro r9 v9)
    clear r9 v9
    refine hK.out _ _ (sS.out _ (KT.then hk9)) (fun hHeld => ?_)
    clear hK K
    have zp12:=zp12.kept hk9
    have KT:=(KT.then hk9)
    have hF:=Flag.kept hF hk9
    refine rdy 5 fun K hK => ?_
    go_simp
    refine (mul_q kb false sA s9 (.slice aA kA cA) (.slice a9 k9 c9) lA l9 _ hF (B8.sl KT) n9.sl (R.of_right H89.out.1) (R.of_right H9.out.1)).mono ?_
    rintro e w10 ⟨hk10,x10,s10,a10,k10,c10,l10,rfl,hF10,n10,r10,hx10,hy10,_,hz10⟩
    rw [H89.out.2.2.1,H9.out.2,den_cast] at hx10 hy10 hz10
    obtain rfl:s10 = false:=den_sign r10 hz10 HT0.out.2.2.2.2
    have n10:=n10.mono (Nat.le_trans KK.size KT.size)
    have H10:=hid (And.intro r10 (And.intro (fun h => (hx10 h).2) (hy10 rfl)))
    clear r10 hx10 hy10 hz10
    refine hK.out _ _ (sS.out _ (KT.trans hk10)) (fun hHeld => ?_)
    clear hK K
    have zp12:=zp12.keptK hkp12 hk10
    have n9:=New.keptK hF n9 hk10
    have KT:=(KT.trans hk10)
    have hF:=hF10
    have cp120:=zp12.c0
    have cp121:=zp12.c1
    have gp120:=zp12.fz 0
    have gp121:=zp12.fz 1
    refine rdy 7 fun K hK => ?_
    go_simp
    refine hK.out _ _ (sS.out _ (KT.set2 hgp12 _ _)) (fun hHeld => ?_)
    clear hK K
    have ep12:=set2_at (x:=(.bool false)) (y:=(.slice a10 k10 c10)) cp120 cp121
    have n9:=New.box2 n9 zp12 (.bool false) (.slice a10 k10 c10)
    have n10:=New.box2 n10 zp12 (.bool false) (.slice a10 k10 c10)
    have KT:=KT.set2 hgp12 (.bool false) (.slice a10 k10 c10)
    have hF:=Flag.set2 hF hkp12 (.bool false) (.slice a10 k10 c10)
    clear cp120 cp121 gp120 gp121
    generalize ((w10.setCell ⟨p12,0,none⟩ (.bool false)).setCell ⟨p12,1,none⟩ (.slice a10 k10 c10)) = Ws0 at ep12  n9 n10 KT hF hHeld ⊢
    have bp12:=Box.mk hF hkp12 ep12.1 ep12.2 n10.sl
    refine dn ?_
    go_wp2_with fail
    go_meet
    case rel => exact ⟨p12,a10,k10,c10,rfl,KT,x10,l10,hF,bp12,n10,H10.out.1,H10.out.2.1,H10.out.2.2,hgp12⟩
   case rest =>
    obtain ⟨p12,a10,k10,c10,rfl,HC⟩:=hcut
    obtain ⟨KT,x10,l10,hF,B12,n12,h12⟩:=HC.out
    have H12:=hid h12
    have HN12:=hid (And.intro hF n12)
    clear h12 HC HQ
    have A:=A.mv KT
    have B:=B.mv KT
    have B8:=B8.mv KT
    have B9:=B9.mv KT
    have B11:=B11.mv KT
    have KK:=KK.trans KT
    have KN:KeptK kb wc wc:=KeptK.refl _ _
    have G12:Hid (W.heap.size<=p12):=by have h1:=H12.out.2.2.2; have h2:=HS6.out; show _<=_; omega
    clear KT n12 HS6
    have q0:=A.c0 (KeptK.refl kb wc)
    have q1:=A.c1 (KeptK.refl kb wc)
    have q2:=A.c2 (KeptK.refl kb wc)
    have q3:=A.c3 (KeptK.refl kb wc)
    go_wp2_with fail
    refine (quoRem_r m false (.slice a1 k1 c1) (.slice a2 k2 c2) an ad _ (A.sn (KeptK.refl _ _)) (A.sd (KeptK.refl _ _)) HR.out.1 HR.out.2.1 HD.out.2.2.2.2.1).mono ?_
    rintro e w11 ⟨hk11,s13,a13,k13,c13,l13,s14,a14,k14,c14,l14,rfl,n13,n14,r13,r14,v13,v14⟩
    rw [HD.out.1] at v13 v14
    have H11:=hid (And.intro r13 (And.intro r14 (And.intro v13 v14)))
    clear r13 r14 v13 v14
    clear q0 q1 q2 q3
    go_upto_region 8 with fail
    have hK:Kept w11 ((w11.alloc (.cells #[.bool s13,.slice a13 k13 c13] 27)).alloc (.cells #[.bool s14,.slice a14 k14 c14] 27)):=((Kept.refl w11).alloc _).alloc _
    have hY:=box_kept2 (Kept.refl ((w11.alloc (.cells #[.bool s13,.slice a13 k13 c13] 27)).alloc (.cells #[.bool s14,.slice a14 k14 c14] 27)))
    have KT:KeptK kb wc ((w11.alloc (.cells #[.bool s13,.slice a13 k13 c13] 27)).alloc (.cells #[.bool s14,.slice a14 k14 c14] 27)):=(KeptK.of hk11).then hK
    have hs:=hF.lt
    have hs':wc.heap.size<=w11.heap.size:=hk11.size
    have hF:=Flag.kept (hF.kept hk11) hK
    have n13:=New.kept n13 hK
    have n14:=New.kept n14 hK
    generalize (w11.alloc (.cells #[.bool s13,.slice a13 k13 c13] 27)).alloc (.cells #[.bool s14,.slice a14 k14 c14] 27) = W8 at hK hY KT hF n13 n14 ⊢
    obtain ⟨hy0,hy1,hy2,hy3⟩:=hY
    obtain ⟨p14,hp14⟩:∃ p,p = w11.heap.size + 1:=⟨_,rfl⟩
    rw [<- hp14] at hy2 hy3 ⊢
    obtain ⟨p13,hp13⟩:∃ p,p = w11.heap.size:=⟨_,rfl⟩
    rw [<- hp13] at hy0 hy1 hp14 hs' ⊢
    have B13:=Box.mk hF (show p13 ≠ kb by omega) hy0 hy1 n13.sl
    have B14:=Box.mk hF (show p14 ≠ kb by omega) hy2 hy3 n14.sl
    have G13:Hid (W.heap.size<=p13):=by have h:=KK.size; show _<=_; omega
    have B:=B.mv KT
    have B8:=B8.mv KT
    have B9:=B9.mv KT
    have B11:=B11.mv KT
    have B12:=B12.mv KT
    have KK:=KK.trans KT
    have KN:=KN.trans KT
    clear hK hy0 hy1 hy2 hy3 hp13 hp14 hs hs' KT hk11 n13 n14
    clear A
    have q0:=B.c0 (KeptK.refl kb W8)
    have q1:=B.c1 (KeptK.refl kb W8)
    have q2:=B.c2 (KeptK.refl kb W8)
    have q3:=B.c3 (KeptK.refl kb W8)
    go_wp2_with fail
    refine (quoRem_r n false (.slice b1 k3 c3) (.slice b2 k4 c4) bn bd _ (B.sn (KeptK.refl _ _)) (B.sd (KeptK.refl _ _)) HR.out.2.2.1 HR.out.2.2.2 HD.out.2.2.2.2.2.1).mono ?_
    rintro e w12 ⟨hk12,s15,a15,k15,c15,l15,s16,a16,k16,c16,l16,rfl,n15,n16,r15,r16,v15,v16⟩
    rw [HD.out.2.1] at v15 v16
    have H12b:=hid (And.intro r15 (And.intro r16 (And.intro v15 v16)))
    clear r15 r16 v15 v16
    clear q0 q1 q2 q3
    go_upto_region 9 with fail
    have hK:Kept w12 ((w12.alloc (.cells #[.bool s15,.slice a15 k15 c15] 27)).alloc (.cells #[.bool s16,.slice a16 k16 c16] 27)):=((Kept.refl w12).alloc _).alloc _
    have hY:=box_kept2 (Kept.refl ((w12.alloc (.cells #[.bool s15,.slice a15 k15 c15] 27)).alloc (.cells #[.bool s16,.slice a16 k16 c16] 27)))
    have KT:KeptK kb W8 ((w12.alloc (.cells #[.bool s15,.slice a15 k15 c15] 27)).alloc (.cells #[.bool s16,.slice a16 k16 c16] 27)):=(KeptK.of hk12).then hK
    have hs:=hF.lt
    have hs':W8.heap.size<=w12.heap.size:=hk12.size
    have hF:=Flag.kept (hF.kept hk12) hK
    have n15:=New.kept n15 hK
    have n16:=New.kept n16 hK
    generalize (w12.alloc (.cells #[.bool s15,.slice a15 k15 c15] 27)).alloc (.cells #[.bool s16,.slice a16 k16 c16] 27) = W9 at hK hY KT hF n15 n16 ⊢
    obtain ⟨hy0,hy1,hy2,hy3⟩:=hY
    obtain ⟨p16,hp16⟩:∃ p,p = w12.heap.size + 1:=⟨_,rfl⟩
    rw [<- hp16] at hy2 hy3 ⊢
    obtain ⟨p15,hp15⟩:∃ p,p = w12.heap.size:=⟨_,rfl⟩
    rw [<- hp15] at hy0 hy1 hp16 hs' ⊢
    have B15:=Box.mk hF (show p15 ≠ kb by omega) hy0 hy1 n15.sl
    have B16:=Box.mk hF (show p16 ≠ kb by omega) hy2 hy3 n16.sl
    have G15:Hid (W.heap.size<=p15):=by have h:=KK.size; show _<=_; omega
    have B8:=B8.mv KT
    have B9:=B9.mv KT
    have B11:=B11.mv KT
    have B12:=B12.mv KT
    have B13:=B13.mv KT
    have B14:=B14.mv KT
    have KK:=KK.trans KT
    have KN:=KN.trans KT
    clear hK hy0 hy1 hy2 hy3 hp15 hp16 hs hs' KT hk12 n15 n16
    clear B
    have q0:=B14.c0 (KeptK.refl kb W9)
    have q1:=B14.c1 (KeptK.refl kb W9)
    have q2:=B9.c0 (KeptK.refl kb W9)
    have q3:=B9.c1 (KeptK.refl kb W9)
    have q4:=B11.c0 (KeptK.refl kb W9)
    have q5:=B11.c1 (KeptK.refl kb W9)
    go_wp2_with fail
    refine (mulOver_q kb x10 s14 sB a14 aB a8 k14 c14 kB cB k8 c8 l14 lB lt _ hF (B14.sl (KeptK.refl _ _)) (B9.sl (KeptK.refl _ _)) (B11.sl (KeptK.refl _ _)) (R.of_right H11.out.2.1) (R.of_right H89.out.2.1) (R.of_right HT.out.1) HT.out.2.2).mono ?_
    rintro e w13 ⟨hk13,x13,s17,a17,k17,c17,l17,s18,a18,k18,c18,l18,rfl,hF13,n17,n18,r17,r18,hv13⟩
    have H13:Hid (M.Right s17 l17/\M.Right s18 l18/\M.int s18 l18 = FM.lOf (FM.rOf (M.int m an) (g * oA)) oB t/\(x13 = false->x10 = false/\M.int s17 l17 = FM.pOf (FM.rOf (M.int m an) (g * oA)) oB t)/\(x10 = false->(FM.uOf (FM.rOf (M.int m an) (g * oA)) oB t).natAbs < M.W72->(FM.pOf (FM.rOf (M.int m an) (g * oA)) oB t).natAbs < M.W72->x13 = false)):=by
     rw [H11.out.2.2.2,H89.out.2.2.2,HT.out.2.1] at hv13
     exact ⟨r17,r18,hv13 (FM.mod_mul_lt HT0.out.2.1 HP.out.b0 (by rw [HT0.out.2.2.1,Nat.mul_assoc]; exact Nat.mul_le_mul_left _ (Nat.le_mul_of_pos_left _ (g_pos HP.out.g0 HT0.out.2.2.1))) HD.out.2.2.2.1)⟩
    clear r17 r18 hv13
    clear q0 q1 q2 q3 q4 q5
    go_upto_region 10 with fail
    have hK:Kept w13 ((w13.alloc (.cells #[.bool s17,.slice a17 k17 c17] 27)).alloc (.cells #[.bool s18,.slice a18 k18 c18] 27)):=((Kept.refl w13).alloc _).alloc _
    have hY:=box_kept2 (Kept.refl ((w13.alloc (.cells #[.bool s17,.slice a17 k17 c17] 27)).alloc (.cells #[.bool s18,.slice a18 k18 c18] 27)))
    have KT:KeptK kb W9 ((w13.alloc (.cells #[.bool s17,.slice a17 k17 c17] 27)).alloc (.cells #[.bool s18,.slice a18 k18 c18] 27)):=hk13.then hK
    have hs:=hF.lt
    have hs':W9.heap.size<=w13.heap.size:=hk13.size
    have hF:=Flag.kept hF13 hK
    have n17:=New.kept n17 hK
    have n18:=New.kept n18 hK
    generalize (w13.alloc (.cells #[.bool s17,.slice a17 k17 c17] 27)).alloc (.cells #[.bool s18,.slice a18 k18 c18] 27) = W10 at hK hY KT hF n17 n18 ⊢
    obtain ⟨hy0,hy1,hy2,hy3⟩:=hY
    obtain ⟨p18,hp18⟩:∃ p,p = w13.heap.size + 1:=⟨_,rfl⟩
    rw [<- hp18] at hy2 hy3 ⊢
    obtain ⟨p17,hp17⟩:∃ p,p = w13.heap.size:=⟨_,rfl⟩
    rw [<- hp17] at hy0 hy1 hp18 hs' ⊢
    have B17:=Box.mk hF (show p17 ≠ kb by omega) hy0 hy1 n17.sl
    have B18:=Box.mk hF (show p18 ≠ kb by omega) hy2 hy3 n18.sl
    have G17:Hid (W.heap.size<=p17):=by have h:=KK.size; show _<=_; omega
    have B8:=B8.mv KT
    have B9:=B9.mv KT
    have B11:=B11.mv KT
    have B12:=B12.mv KT
    have B13:=B13.mv KT
    have B15:=B15.mv KT
    have B16:=B16.mv KT
    have KK:=KK.trans KT
    have KN:=KN.trans KT
    clear hK hy0 hy1 hy2 hy3 hp17 hp18 hs hs' KT hk13 n17 n18
    clear hF13 B14
    have q0:=B16.c0 (KeptK.refl kb W10)
    have q1:=B16.c1 (KeptK.refl kb W10)
    have q2:=B8.c0 (KeptK.refl kb W10)
    have q3:=B8.c1 (KeptK.refl kb W10)
    have q4:=B11.c0 (KeptK.refl kb W10)
    have q5:=B11.c1 (KeptK.refl kb W10)
    go_wp2_with fail
    refine (mulOver_q kb x13 s16 sA a16 aA a8 k16 c16 kA cA k8 c8 l16 lA lt _ hF (B16.sl (KeptK.refl _ _)) (B8.sl (KeptK.refl _ _)) (B11.sl (KeptK.refl _ _)) (R.of_right H12b.out.2.1) (R.of_right H89.out.1) (R.of_right HT.out.1) HT.out.2.2).mono ?_
    rintro e w14 ⟨hk14,x14,s19,a19,k19,c19,l19,s20,a20,k20,c20,l20,rfl,hF14,n19,n20,r19,r20,hv14⟩
    have H14:Hid (M.Right s19 l19/\M.Right s20 l20/\M.int s20 l20 = FM.lOf (FM.rOf (M.int n bn) (g * oB)) oA t/\(x14 = false->x13 = false/\M.int s19 l19 = FM.pOf (FM.rOf (M.int n bn) (g * oB)) oA t)/\(x13 = false->(FM.uOf (FM.rOf (M.int n bn) (g * oB)) oA t).natAbs < M.W72->(FM.pOf (FM.rOf (M.int n bn) (g * oB)) oA t).natAbs < M.W72->x14 = false)):=by
     rw [H12b.out.2.2.2,H89.out.2.2.1,HT.out.2.1] at hv14
     exact ⟨r19,r20,hv14 (FM.mod_mul_lt HT0.out.2.1 HP.out.a0 (by rw [HT0.out.2.2.1,Nat.mul_assoc]; exact Nat.mul_le_mul_left _ (Nat.le_mul_of_pos_left _ (g_pos HP.out.g0 HT0.out.2.2.1))) HD.out.2.2.1)⟩
    clear r19 r20 hv14
    clear q0 q1 q2 q3 q4 q5
    go_upto_region 11 with fail
    have hK:Kept w14 ((w14.alloc (.cells #[.bool s19,.slice a19 k19 c19] 27)).alloc (.cells #[.bool s20,.slice a20 k20 c20] 27)):=((Kept.refl w14).alloc _).alloc _
    have hY:=box_kept2 (Kept.refl ((w14.alloc (.cells #[.bool s19,.slice a19 k19 c19] 27)).alloc (.cells #[.bool s20,.slice a20 k20 c20] 27)))
    have KT:KeptK kb W10 ((w14.alloc (.cells #[.bool s19,.slice a19 k19 c19] 27)).alloc (.cells #[.bool s20,.slice a20 k20 c20] 27)):=hk14.then hK
    have hs:=hF.lt
    have hs':W10.heap.size<=w14.heap.size:=hk14.size
    have hF:=Flag.kept hF14 hK
    have n19:=New.kept n19 hK
    have n20:=New.kept n20 hK
    generalize (w14.alloc (.cells #[.bool s19,.slice a19 k19 c19] 27)).alloc (.cells #[.bool s20,.slice a20 k20 c20] 27) = W11 at hK hY KT hF n19 n20 ⊢
    obtain ⟨hy0,hy1,hy2,hy3⟩:=hY
    obtain ⟨p20,hp20⟩:∃ p,p = w14.heap.size + 1:=⟨_,rfl⟩
    rw [<- hp20] at hy2 hy3 ⊢
    obtain ⟨p19,hp19⟩:∃ p,p = w14.heap.size:=⟨_,rfl⟩
    rw [<- hp19] at hy0 hy1 hp20 hs' ⊢
    have B19:=Box.mk hF (show p19 ≠ kb by omega) hy0 hy1 n19.sl
    have B20:=Box.mk hF (show p20 ≠ kb by omega) hy2 hy3 n20.sl
    have G19:Hid (W.heap.size<=p19):=by have h:=KK.size; show _<=_; omega
    have B11:=B11.mv KT
    have B12:=B12.mv KT
    have B13:=B13.mv KT
    have B15:=B15.mv KT
    have B17:=B17.mv KT
    have B18:=B18.mv KT
    have KK:=KK.trans KT
    have KN:=KN.trans KT
    clear hK hy0 hy1 hy2 hy3 hp19 hp20 hs hs' KT hk14 n19 n20
    clear hF14 B16 B8 B9
    have HK:Hid (FM.lOf (FM.rOf (M.int m an) (g * oA)) oB t + FM.lOf (FM.rOf (M.int n bn) (g * oB)) oA t = t * cc/\True/\(t * cc:Int).natAbs < M.W72):=by
     refine ⟨HC0.out.1,trivial,?_⟩
     have h1:=FM.l_lt (FM.rOf (M.int m an) (g * oA)) (o:=oB) HT0.out.2.1
     have h2:=FM.l_lt (FM.rOf (M.int n bn) (g * oB)) (o:=oA) HT0.out.2.1
     have h3:=FM.carry_le h1 h2 HC0.out.1
     have h4:(t * cc:Int).natAbs = t * cc.natAbs:=by rw [Int.natAbs_mul]; rfl
     have h5:=Nat.mul_le_mul_left t h3
     have h6:t<=g:=by rw [HT0.out.2.2.1]; exact Nat.le_mul_of_pos_right _ (g_pos HP.out.g0 HT0.out.2.2.1)
     have h7:=Nat.le_mul_of_pos_right g HP.out.a0
     have h8:=HD.out.2.2.1
     omega
    go_cut [21] (fun s21 wd => ∃ (p21:Nat) (s22:Bool) (a22:Option Addr) (k22 c22:Nat),s21 = .pointer (some ⟨p21,0,none⟩)/\Hid (KeptK kb W11 wd/\∃ (x15:Bool) (l22:List Nat),Flag wd kb x15/\Box kb wd p21 s22 a22 k22 c22 l22/\M.Right s22 l22/\M.int s22 l22 = cc/\(x15 = false->x14 = false)/\(x14 = false->x15 = false)))
    case first =>
     have KT:KeptK kb W11 W11.drew:=KeptK.of (Kept.refl _).drew
     have hF:Flag W11.drew kb x14:=Flag.kept hF (Kept.refl _).drew
     have sS:=hidS (fun (V:World) (K:KeptK kb W11 V) => And.intro (B18.c0 K) (And.intro (B18.c1 K) (And.intro (B20.c0 K) (And.intro (B20.c1 K) (And.intro (B11.c0 K) (B11.c1 K))))))
     refine wp_region_held_drew (S:=fun w' => w'.cell? ⟨p18,0,none⟩ = some (.bool s18)/\w'.cell? ⟨p18,1,none⟩ = some (.slice a18 k18 c18)/\w'.cell? ⟨p20,0,none⟩ = some (.bool s20)/\w'.cell? ⟨p20,1,none⟩ = some (.slice a20 k20 c20)/\w'.cell? ⟨p11,0,none⟩ = some (.bool false)/\w'.cell? ⟨p11,1,none⟩ = some (.slice a8 k8 c8)) (by kernel_rfl) (sS.out _ KT) (fun hHeld => ?_)
     generalize W11.drew = Wd at KT hF hHeld ⊢
     refine wk 0 hHeld ?_
     refine wk 1 hHeld ?_
     refine wk 3 hHeld ?_
     refine wpAnyH_ready (rs:=[2,5]) (by kernel_rfl) (by simp) ?_
     refine AllReadyH.cons rfl (fun K hK => ?_) ?_
     ·
      go_simp
      refine (add_q kb x14 s18 s20 (.slice a18 k18 c18) (.slice a20 k20 c20) l18 l20 _ hF (B18.sl KT) (B20.sl KT) (R.of_right H13.out.2.1) (R.of_right H14.out.2.1)).mono ?_
      rintro e w15 ⟨hk15,x15,s21,a21,k21,c21,l21,rfl,hF15,n21,r21,hx15,hy15,hv15,_⟩
      rw [H13.out.2.2.1,H14.out.2.2.1,HK.out.1] at hx15 hy15 hv15
      have H15:=hid (And.intro r21 (And.intro (fun h => (hx15 h).1) (And.intro (fun h => hy15 h HK.out.2.2) (hv15 HK.out.2.2))))
      clear r21 hx15 hy15 hv15
      refine hK.out _ _ (sS.out _ (KT.trans hk15)) (fun hHeld => ?_)
      clear hK K
      have KT:=(KT.trans hk15)
      have hF:=hF15
      refine wpAnyH_ready (rs:=[4,5]) (by kernel_rfl) (by simp) ?_
      refine AllReadyH.cons rfl (fun K hK => ?_) ?_
      ·
       go_simp
       refine (exact_r s21 false (.slice a21 k21 c21) (.slice a8 k8 c8) l21 lt cc _ n21.sl (B11.sl KT) (R.of_right H15.out.1) (R.of_right HT.out.1) HT.out.2.2 (by rw [H15.out.2.2.2,HT.out.2.1,Int.mul_comm])).mono ?_
       rintro e w16 ⟨hk16,s22,a22,k22,c22,l22,rfl,n22,r22,v22⟩
       have H16:=hid (And.intro r22 v22)
       clear r22 v22
       refine hK.out _ _ (sS.out _ (KT.then hk16)) (fun hHeld => ?_)
       clear hK K
       have n21:=New.kept n21 hk16
       have KT:=(KT.then hk16)
       have hF:=Flag.kept hF hk16
       refine rdy 5 fun K hK => ?_
       go_simp
       refine hK.out _ _ (sS.out _ (KT.then ((Kept.refl w16).alloc _))) (fun hHeld => ?_)
       clear hK K
       have zp21:ZBox (w16.alloc (.cells #[.bool false,.slice none 0 0] 27)) w16.heap.size:=ZBox.alloc _
       have hkp21:w16.heap.size ≠ kb:=by have:=hF.lt; omega
       have hgp21:W11.heap.size<=w16.heap.size:=KT.size
       have n21:=New.kept n21 ((Kept.refl w16).alloc (.cells #[.bool false,.slice none 0 0] 27))
       have n22:=New.kept n22 ((Kept.refl w16).alloc (.cells #[.bool false,.slice none 0 0] 27))
       have KT:=KT.then ((Kept.refl w16).alloc (.cells #[.bool false,.slice none 0 0] 27))
       have hF:=Flag.kept hF ((Kept.refl w16).alloc (.cells #[.bool false,.slice none 0 0] 27))
       obtain ⟨p21,hpp21⟩:∃ p,p = w16.heap.size:=⟨_,rfl⟩
       rw [<- hpp21] at zp21 hkp21 hgp21  ⊢
       generalize w16.alloc (.cells #[.bool false,.slice none 0 0] 27) = Wa5 at zp21  n21 n22 KT hF hHeld ⊢
       clear hpp21
       have cp210:=zp21.c0
       have cp211:=zp21.c1
       have gp210:=zp21.fz 0
       have gp211:=zp21.fz 1
       refine rdy 6 fun K hK => ?_
       go_simp
       refine hK.out _ _ (sS.out _ (KT.set2 hgp21 _ _)) (fun hHeld => ?_)
       clear hK K
       have ep21:=set2_at (x:=(.bool s22)) (y:=(.slice a22 k22 c22)) cp210 cp211
       have n21:=New.box2 n21 zp21 (.bool s22) (.slice a22 k22 c22)
       have n22:=New.box2 n22 zp21 (.bool s22) (.slice a22 k22 c22)
       have KT:=KT.set2 hgp21 (.bool s22) (.slice a22 k22 c22)
       have hF:=Flag.set2 hF hkp21 (.bool s22) (.slice a22 k22 c22)
       clear cp210 cp211 gp210 gp211
       generalize ((Wa5.setCell ⟨p21,0,none⟩ (.bool s22)).setCell ⟨p21,1,none⟩ (.slice a22 k22 c22)) = Ws0 at ep21  n21 n22 KT hF hHeld ⊢
       have bp21:=Box.mk hF hkp21 ep21.1 ep21.2 n22.sl
       refine dn ?_
       go_wp2_with fail
       go_meet
       case rel => exact ⟨p21,s22,a22,k22,c22,rfl,KT,x15,l22,hF,bp21,H16.out.1,H16.out.2,H15.out.2.1,H15.out.2.2.1⟩
      refine AllReadyH.cons rfl (fun K hK => ?_) AllReadyH.nil
      go_simp
      refine hK.out _ _ (sS.out _ (KT.then ((Kept.refl w15).alloc _))) (fun hHeld => ?_)
      clear hK K
      have zp21:ZBox (w15.alloc (.cells #[.bool false,.slice none 0 0] 27)) w15.heap.size:=ZBox.alloc _
      have hkp21:w15.heap.size ≠ kb:=by have:=hF.lt; omega
      have hgp21:W11.heap.size<=w15.heap.size:=KT.size
      have n21:=New.kept n21 ((Kept.refl w15).alloc (.cells #[.bool false,.slice none 0 0] 27))
      have KT:=KT.then ((Kept.refl w15).alloc (.cells #[.bool false,.slice none 0 0] 27))
      have hF:=Flag.kept hF ((Kept.refl w15).alloc (.cells #[.bool false,.slice none 0 0] 27))
      obtain ⟨p21,hpp21⟩:∃ p,p = w15.heap.size:=⟨_,rfl⟩
      rw [<- hpp21] at zp21 hkp21 hgp21  ⊢
      generalize w15.alloc (.cells #[.bool false,.slice none 0 0] 27) = Wa5 at zp21  n21 KT hF hHeld ⊢
      clear hpp21
      refine rdy 4 fun K hK => ?_
      go_simp
      refine (exact_r s21 false (.slice a21 k21 c21) (.slice a8 k8 c8) l21 lt cc _ n21.sl (B11.sl KT) (R.of_right H15.out.1) (R.of_right HT.out.1) HT.out.2.2 (by rw [H15.out.2.2.2,HT.out.2.1,Int.mul_comm])).mono ?_
      rintro e w16 ⟨hk16,s22,a22,k22,c22,l22,rfl,n22,r22,v22⟩
      have H16:=hid (And.intro r22 v22)
      clear r22 v22
      refine hK.out _ _ (sS.out _ (KT.then hk16)) (fun hHeld => ?_)
      clear hK K
      have zp21:=zp21.kept hk16
      have n21:=New.kept n21 hk16
      have KT:=(KT.then hk16)
      have hF:=Flag.kept hF hk16
      have cp210:=zp21.c0
      have cp211:=zp21.c1
      have gp210:=zp21.fz 0
      have gp211:=zp21.fz 1
      refine rdy 6 fun K hK => ?_
      go_simp
      refine hK.out _ _ (sS.out _ (KT.set2 hgp21 _ _)) (fun hHeld => ?_)
      clear hK K
      have ep21:=set2_at (x:=(.bool s22)) (y:=(.slice a22 k22 c22)) cp210 cp211
      have n21:=New.box2 n21 zp21 (.bool s22) (.slice a22 k22 c22)
      have n22:=New.box2 n22 zp21 (.bool s22) (.slice a22 k22 c22)
      have KT:=KT.set2 hgp21 (.bool s22) (.slice a22 k22 c22)
      have hF:=Flag.set2 hF hkp21 (.bool s22) (.slice a22 k22 c22)
      clear cp210 cp211 gp210 gp211
      generalize ((w16.setCell ⟨p21,0,none⟩ (.bool s22)).setCell ⟨p21,1,none⟩ (.slice a22 k22 c22)) = Ws0 at ep21  n21 n22 KT hF hHeld ⊢
      have bp21:=Box.mk hF hkp21 ep21.1 ep21.2 n22.sl
      refine dn ?_
      go_wp2_with fail
      go_meet
      case rel => exact ⟨p21,s22,a22,k22,c22,rfl,KT,x15,l22,hF,bp21,H16.out.1,H16.out.2,H15.out.2.1,H15.out.2.2.1⟩
     refine AllReadyH.cons rfl (fun K hK => ?_) AllReadyH.nil
     go_simp
     refine hK.out _ _ (sS.out _ (KT.then ((Kept.refl Wd).alloc _))) (fun hHeld => ?_)
     clear hK K
     have zp21:ZBox (Wd.alloc (.cells #[.bool false,.slice none 0 0] 27)) Wd.heap.size:=ZBox.alloc _
     have hkp21:Wd.heap.size ≠ kb:=by have:=hF.lt; omega
     have hgp21:W11.heap.size<=Wd.heap.size:=KT.size
     have KT:=KT.then ((Kept.refl Wd).alloc (.cells #[.bool false,.slice none 0 0] 27))
     have hF:=Flag.kept hF ((Kept.refl Wd).alloc (.cells #[.bool false,.slice none 0 0] 27))
     obtain ⟨p21,hpp21⟩:∃ p,p = Wd.heap.size:=⟨_,rfl⟩
     rw [<- hpp21] at zp21 hkp21 hgp21  ⊢
     generalize Wd.alloc (.cells #[.bool false,.slice none 0 0] 27) = Wa5 at zp21   KT hF hHeld ⊢
     clear hpp21
     refine rdy 2 fun K hK => ?_
     go_simp
     refine (add_q kb x14 s18 s20 (.slice a18 k18 c18) (.slice a20 k20 c20) l18 l20 _ hF (B18.sl KT) (B20.sl KT) (R.of_right H13.out.2.1) (R.of_right H14.out.2.1)).mono ?_
     rintro e w15 ⟨hk15,x15,s21,a21,k21,c21,l21,rfl,hF15,n21,r21,hx15,hy15,hv15,_⟩
     rw [H13.out.2.2.1,H14.out.2.2.1,HK.out.1] at hx15 hy15 hv15
     have H15:=hid (And.intro r21 (And.intro (fun h => (hx15 h).1) (And.intro (fun h => hy15 h HK.out.2.2) (hv15 HK.out.2.2))))
     clear r21 hx15 hy15 hv15
     refine hK.out _ _ (sS.out _ (KT.trans hk15)) (fun hHeld => ?_)
     clear hK K
     have zp21:=zp21.keptK hkp21 hk15
     have KT:=(KT.trans hk15)
     have hF:=hF15
     refine rdy 4 fun K hK => ?_
     go_simp
     refine (exact_r s21 false (.slice a21 k21 c21) (.slice a8 k8 c8) l21 lt cc _ n21.sl (B11.sl KT) (R.of_right H15.out.1) (R.of_right HT.out.1) HT.out.2.2 (by rw [H15.out.2.2.2,HT.out.2.1,Int.mul_comm])).mono ?_
     rintro e w16 ⟨hk16,s22,a22,k22,c22,l22,rfl,n22,r22,v22⟩
     have H16:=hid (And.intro r22 v22)
     clear r22 v22
     refine hK.out _ _ (sS.out _ (KT.then hk16)) (fun hHeld => ?_)
     clear hK K
     have zp21:=zp21.kept hk16
     have n21:=New.kept n21 hk16
     have KT:=(KT.then hk16)
     have hF:=Flag.kept hF hk16
     have cp210:=zp21.c0
     have cp211:=zp21.c1
     have gp210:=zp21.fz 0
     have gp211:=zp21.fz 1
     refine rdy 6 fun K hK => ?_
     go_simp
     refine hK.out _ _ (sS.out _ (KT.set2 hgp21 _ _)) (fun hHeld => ?_)
     clear hK K
     have ep21:=set2_at (x:=(.bool s22)) (y:=(.slice a22 k22 c22)) cp210 cp211
     have n21:=New.box2 n21 zp21 (.bool s22) (.slice a22 k22 c22)
     have n22:=New.box2 n22 zp21 (.bool s22) (.slice a22 k22 c22)
     have KT:=KT.set2 hgp21 (.bool s22) (.slice a22 k22 c22)
     have hF:=Flag.set2 hF hkp21 (.bool s22) (.slice a22 k22 c22)
     clear cp210 cp211 gp210 gp211
     generalize ((w16.setCell ⟨p21,0,none⟩ (.bool s22)).setCell ⟨p21,1,none⟩ (.slice a22 k22 c22)) = Ws0 at ep21  n21 n22 KT hF hHeld ⊢
     have bp21:=Box.mk hF hkp21 ep21.1 ep21.2 n22.sl
     refine dn ?_
     go_wp2_with fail
     go_meet
     case rel => exact ⟨p21,s22,a22,k22,c22,rfl,KT,x15,l22,hF,bp21,H16.out.1,H16.out.2,H15.out.2.1,H15.out.2.2.1⟩
    case rest =>
     obtain ⟨p21,s22,a22,k22,c22,rfl,HC⟩:=hcut
     obtain ⟨KT,x15,l22,hF,B21,h21⟩:=HC.out
     have H21:=hid h21
     clear h21 HC
     have B12:=B12.mv KT
     have B13:=B13.mv KT
     have B15:=B15.mv KT
     have B17:=B17.mv KT
     have B19:=B19.mv KT
     have KK:=KK.trans KT
     have KN:=KN.trans KT
     clear KT B11 B18 B20 G17 G19
     go_upto_region 12 with fail
     go_cut [22] (fun s22x wd => ∃ (p22:Nat) (s24:Bool) (a24:Option Addr) (k24 c24:Nat),s22x = .pointer (some ⟨p22,0,none⟩)/\Hid (KeptK kb wc wd/\∃ (x17 x18:Bool) (l23 l24:List Nat) (s23:Bool),Flag wd kb x18/\Box kb wd p22 s24 a24 k24 c24 l24/\M.Right s24 l24/\(x17 = false->x15 = false/\M.int s23 l23 = M.int s17 l17 + M.int s19 l19)/\(x15 = false->(M.int s17 l17 + M.int s19 l19).natAbs < M.W72->x17 = false)/\(x18 = false->x17 = false/\M.int s24 l24 = M.int s23 l23 + M.int s22 l22)/\(x17 = false->(M.int s23 l23 + M.int s22 l22).natAbs < M.W72->x18 = false)/\wc.heap.size<=p22))
     case first =>
      have KT:KeptK kb wc wc.drew:=KeptK.of (Kept.refl _).drew
      have hF:Flag wc.drew kb x15:=Flag.kept hF (Kept.refl _).drew
      have sS:=hidS (fun (V:World) (K:KeptK kb wc V) => And.intro (B17.c0 K) (And.intro (B17.c1 K) (And.intro (B19.c0 K) (And.intro (B19.c1 K) (And.intro (B21.c0 K) (B21.c1 K))))))
      refine wp_region_held_drew (S:=fun w' => w'.cell? ⟨p17,0,none⟩ = some (.bool s17)/\w'.cell? ⟨p17,1,none⟩ = some (.slice a17 k17 c17)/\w'.cell? ⟨p19,0,none⟩ = some (.bool s19)/\w'.cell? ⟨p19,1,none⟩ = some (.slice a19 k19 c19)/\w'.cell? ⟨p21,0,none⟩ = some (.bool s22)/\w'.cell? ⟨p21,1,none⟩ = some (.slice a22 k22 c22)) (by kernel_rfl) (sS.out _ KT) (fun hHeld => ?_)
      generalize wc.drew = Wd at KT hF hHeld ⊢
      refine wk 0 hHeld ?_
      refine wk 1 hHeld ?_
      refine wk 3 hHeld ?_
      refine wpAnyH_ready (rs:=[2,5]) (by kernel_rfl) (by simp) ?_
      refine AllReadyH.cons rfl (fun K hK => ?_) ?_
      ·
       go_simp
       refine (add_q kb x15 s17 s19 (.slice a17 k17 c17) (.slice a19 k19 c19) l17 l19 _ hF (B17.sl KT) (B19.sl KT) (R.of_right H13.out.1) (R.of_right H14.out.1)).mono ?_
       rintro e w17 ⟨hk17,x17,s23,a23,k23,c23,l23,rfl,hF17,n23,r23,hx17,hy17,_,_⟩
       have H17:=hid (And.intro r23 (And.intro hx17 hy17))
       clear r23 hx17 hy17
       refine hK.out _ _ (sS.out _ (KT.trans hk17)) (fun hHeld => ?_)
       clear hK K
       have KT:=(KT.trans hk17)
       have hF:=hF17
       refine wpAnyH_ready (rs:=[4,5]) (by kernel_rfl) (by simp) ?_
       refine AllReadyH.cons rfl (fun K hK => ?_) ?_
       ·
        go_simp
        refine (add_q kb x17 s23 s22 (.slice a23 k23 c23) (.slice a22 k22 c22) l23 l22 _ hF n23.sl (B21.sl KT) (R.of_right H17.out.1) (R.of_right H21.out.1)).mono ?_
        rintro e w18 ⟨hk18,x18,s24,a24,k24,c24,l24,rfl,hF18,n24,r24,hx18,hy18,_,_⟩
        have H18:=hid (And.intro r24 (And.intro hx18 hy18))
        clear r24 hx18 hy18
        refine hK.out _ _ (sS.out _ (KT.trans hk18)) (fun hHeld => ?_)
        clear hK K
        have n23:=New.keptK hF n23 hk18
        have KT:=(KT.trans hk18)
        have hF:=hF18
        refine rdy 5 fun K hK => ?_
        go_simp
        refine hK.out _ _ (sS.out _ (KT.then ((Kept.refl w18).alloc _))) (fun hHeld => ?_)
        clear hK K
        have zp22:ZBox (w18.alloc (.cells #[.bool false,.slice none 0 0] 27)) w18.heap.size:=ZBox.alloc _
        have hkp22:w18.heap.size ≠ kb:=by have:=hF.lt; omega
        have hgp22:wc.heap.size<=w18.heap.size:=KT.size
        have n23:=New.kept n23 ((Kept.refl w18).alloc (.cells #[.bool false,.slice none 0 0] 27))
        have n24:=New.kept n24 ((Kept.refl w18).alloc (.cells #[.bool false,.slice none 0 0] 27))
        have KT:=KT.then ((Kept.refl w18).alloc (.cells #[.bool false,.slice none 0 0] 27))
        have hF:=Flag.kept hF ((Kept.refl w18).alloc (.cells #[.bool false,.slice none 0 0] 27))
        obtain ⟨p22,hpp22⟩:∃ p,p = w18.heap.size:=⟨_,rfl⟩
        rw [<- hpp22] at zp22 hkp22 hgp22  ⊢
        generalize w18.alloc (.cells #[.bool false,.slice none 0 0] 27) = Wa5 at zp22  n23 n24 KT hF hHeld ⊢
        clear hpp22
        have cp220:=zp22.c0
        have cp221:=zp22.c1
        have gp220:=zp22.fz 0
        have gp221:=zp22.fz 1
        refine rdy 6 fun K hK => ?_
        go_simp
        refine hK.out _ _ (sS.out _ (KT.set2 hgp22 _ _)) (fun hHeld => ?_)
        clear hK K
        have ep22:=set2_at (x:=(.bool s24)) (y:=(.slice a24 k24 c24)) cp220 cp221
        have n23:=New.box2 n23 zp22 (.bool s24) (.slice a24 k24 c24)
        have n24:=New.box2 n24 zp22 (.bool s24) (.slice a24 k24 c24)
        have KT:=KT.set2 hgp22 (.bool s24) (.slice a24 k24 c24)
        have hF:=Flag.set2 hF hkp22 (.bool s24) (.slice a24 k24 c24)
        clear cp220 cp221 gp220 gp221
        generalize ((Wa5.setCell ⟨p22,0,none⟩ (.bool s24)).setCell ⟨p22,1,none⟩ (.slice a24 k24 c24)) = Ws0 at ep22  n23 n24 KT hF hHeld ⊢
        have bp22:=Box.mk hF hkp22 ep22.1 ep22.2 n24.sl
        refine dn ?_
        go_wp2_with fail
        go_meet
        case rel => exact ⟨p22,s24,a24,k24,c24,rfl,KT,x17,x18,l23,l24,s23,hF,bp22,H18.out.1,H17.out.2.1,H17.out.2.2,H18.out.2.1,H18.out.2.2,hgp22⟩
       refine AllReadyH.cons rfl (fun K hK => ?_) AllReadyH.nil
       go_simp
       refine hK.out _ _ (sS.out _ (KT.then ((Kept.refl w17).alloc _))) (fun hHeld => ?_)
       clear hK K
       have zp22:ZBox (w17.alloc (.cells #[.bool false,.slice none 0 0] 27)) w17.heap.size:=ZBox.alloc _
       have hkp22:w17.heap.size ≠ kb:=by have:=hF.lt; omega
       have hgp22:wc.heap.size<=w17.heap.size:=KT.size
       have n23:=New.kept n23 ((Kept.refl w17).alloc (.cells #[.bool false,.slice none 0 0] 27))
       have KT:=KT.then ((Kept.refl w17).alloc (.cells #[.bool false,.slice none 0 0] 27))
       have hF:=Flag.kept hF ((Kept.refl w17).alloc (.cells #[.bool false,.slice none 0 0] 27))
       obtain ⟨p22,hpp22⟩:∃ p,p = w17.heap.size:=⟨_,rfl⟩
       rw [<- hpp22] at zp22 hkp22 hgp22  ⊢
       generalize w17.alloc (.cells #[.bool false,.slice none 0 0] 27) = Wa5 at zp22  n23 KT hF hHeld ⊢
       clear hpp22
       refine rdy 4 fun K hK => ?_
       go_simp
       refine (add_q kb x17 s23 s22 (.slice a23 k23 c23) (.slice a22 k22 c22) l23 l22 _ hF n23.sl (B21.sl KT) (R.of_right H17.out.1) (R.of_right H21.out.1)).mono ?_
       rintro e w18 ⟨hk18,x18,s24,a24,k24,c24,l24,rfl,hF18,n24,r24,hx18,hy18,_,_⟩
       have H18:=hid (And.intro r24 (And.intro hx18 hy18))
       clear r24 hx18 hy18
       refine hK.out _ _ (sS.out _ (KT.trans hk18)) (fun hHeld => ?_)
       clear hK K
       have zp22:=zp22.keptK hkp22 hk18
       have n23:=New.keptK hF n23 hk18
       have KT:=(KT.trans hk18)
       have hF:=hF18
       have cp220:=zp22.c0
       have cp221:=zp22.c1
       have gp220:=zp22.fz 0
       have gp221:=zp22.fz 1
       refine rdy 6 fun K hK => ?_
       go_simp
       refine hK.out _ _ (sS.out _ (KT.set2 hgp22 _ _)) (fun hHeld => ?_)
       clear hK K
       have ep22:=set2_at (x:=(.bool s24)) (y:=(.slice a24 k24 c24)) cp220 cp221
       have n23:=New.box2 n23 zp22 (.bool s24) (.slice a24 k24 c24)
       have n24:=New.box2 n24 zp22 (.bool s24) (.slice a24 k24 c24)
       have KT:=KT.set2 hgp22 (.bool s24) (.slice a24 k24 c24)
       have hF:=Flag.set2 hF hkp22 (.bool s24) (.slice a24 k24 c24)
       clear cp220 cp221 gp220 gp221
       generalize ((w18.setCell ⟨p22,0,none⟩ (.bool s24)).setCell ⟨p22,1,none⟩ (.slice a24 k24 c24)) = Ws0 at ep22  n23 n24 KT hF hHeld ⊢
       have bp22:=Box.mk hF hkp22 ep22.1 ep22.2 n24.sl
       refine dn ?_
       go_wp2_with fail
       go_meet
       case rel => exact ⟨p22,s24,a24,k24,c24,rfl,KT,x17,x18,l23,l24,s23,hF,bp22,H18.out.1,H17.out.2.1,H17.out.2.2,H18.out.2.1,H18.out.2.2,hgp22⟩
      refine AllReadyH.cons rfl (fun K hK => ?_) AllReadyH.nil
      go_simp
      refine hK.out _ _ (sS.out _ (KT.then ((Kept.refl Wd).alloc _))) (fun hHeld => ?_)
      clear hK K
      have zp22:ZBox (Wd.alloc (.cells #[.bool false,.slice none 0 0] 27)) Wd.heap.size:=ZBox.alloc _
      have hkp22:Wd.heap.size ≠ kb:=by have:=hF.lt; omega
      have hgp22:wc.heap.size<=Wd.heap.size:=KT.size
      have KT:=KT.then ((Kept.refl Wd).alloc (.cells #[.bool false,.slice none 0 0] 27))
      have hF:=Flag.kept hF ((Kept.refl Wd).alloc (.cells #[.bool false,.slice none 0 0] 27))
      obtain ⟨p22,hpp22⟩:∃ p,p = Wd.heap.size:=⟨_,rfl⟩
      rw [<- hpp22] at zp22 hkp22 hgp22  ⊢
      generalize Wd.alloc (.cells #[.bool false,.slice none 0 0] 27) = Wa5 at zp22   KT hF hHeld ⊢
      clear hpp22
      refine rdy 2 fun K hK => ?_
      go_simp
      refine (add_q kb x15 s17 s19 (.slice a17 k17 c17) (.slice a19 k19 c19) l17 l19 _ hF (B17.sl KT) (B19.sl KT) (R.of_right H13.out.1) (R.of_right H14.out.1)).mono ?_
      rintro e w17 ⟨hk17,x17,s23,a23,k23,c23,l23,rfl,hF17,n23,r23,hx17,hy17,_,_⟩
      have H17:=hid (And.intro r23 (And.intro hx17 hy17))
      clear r23 hx17 hy17
      refine hK.out _ _ (sS.out _ (KT.trans hk17)) (fun hHeld => ?_)
      clear hK K
      have zp22:=zp22.keptK hkp22 hk17
      have KT:=(KT.trans hk17)
      have hF:=hF17
      refine rdy 4 fun K hK => ?_
      go_simp
      refine (add_q kb x17 s23 s22 (.slice a23 k23 c23) (.slice a22 k22 c22) l23 l22 _ hF n23.sl (B21.sl KT) (R.of_right H17.out.1) (R.of_right H21.out.1)).mono ?_
      rintro e w18 ⟨hk18,x18,s24,a24,k24,c24,l24,rfl,hF18,n24,r24,hx18,hy18,_,_⟩
      have H18:=hid (And.intro r24 (And.intro hx18 hy18))
      clear r24 hx18 hy18
      refine hK.out _ _ (sS.out _ (KT.trans hk18)) (fun hHeld => ?_)
      clear hK K
      have zp22:=zp22.keptK hkp22 hk18
      have n23:=New.keptK hF n23 hk18
      have KT:=(KT.trans hk18)
      have hF:=hF18
      have cp220:=zp22.c0
      have cp221:=zp22.c1
      have gp220:=zp22.fz 0
      have gp221:=zp22.fz 1
      refine rdy 6 fun K hK => ?_
      go_simp
      refine hK.out _ _ (sS.out _ (KT.set2 hgp22 _ _)) (fun hHeld => ?_)
      clear hK K
      have ep22:=set2_at (x:=(.bool s24)) (y:=(.slice a24 k24 c24)) cp220 cp221
      have n23:=New.box2 n23 zp22 (.bool s24) (.slice a24 k24 c24)
      have n24:=New.box2 n24 zp22 (.bool s24) (.slice a24 k24 c24)
      have KT:=KT.set2 hgp22 (.bool s24) (.slice a24 k24 c24)
      have hF:=Flag.set2 hF hkp22 (.bool s24) (.slice a24 k24 c24)
      clear cp220 cp221 gp220 gp221
      generalize ((w18.setCell ⟨p22,0,none⟩ (.bool s24)).setCell ⟨p22,1,none⟩ (.slice a24 k24 c24)) = Ws0 at ep22  n23 n24 KT hF hHeld ⊢
      have bp22:=Box.mk hF hkp22 ep22.1 ep22.2 n24.sl
      refine dn ?_
      go_wp2_with fail
      go_meet
      case rel => exact ⟨p22,s24,a24,k24,c24,rfl,KT,x17,x18,l23,l24,s23,hF,bp22,H18.out.1,H17.out.2.1,H17.out.2.2,H18.out.2.1,H18.out.2.2,hgp22⟩
     case rest =>
      obtain ⟨p22,s24,a24,k24,c24,rfl,HC⟩:=hcut
      obtain ⟨KT,x17,x18,l23,l24,s23,hF,B22,h22⟩:=HC.out
      have H22:=hid h22
      clear h22 HC
      have B12:=B12.mv KT
      have B13:=B13.mv KT
      have B15:=B15.mv KT
      have KN:=KN.trans KT
      have G22:Hid (W.heap.size<=p22):=by have h1:=H22.out.2.2.2.2.2; have h2:=KK.size; show _<=_; omega
      have KK:=KK.trans KT
      clear KT B17 B19 B21
      have nk:p4 ≠ kb:=by have:=H4.out.2.2.2.1; omega
      have R4:=H4.out.1.keptK nk KK
      have u1:¬ (p4 = p13):=by have h1:=H4.out.2.2.2.2.1; have h2:=G13.out; omega
      have u2:¬ (p4 = p15):=by have h1:=H4.out.2.2.2.2.1; have h2:=G15.out; omega
      have u3:¬ (p4 = p22):=by have h1:=H4.out.2.2.2.2.1; have h2:=G22.out; omega
      have u4:¬ (p4 = p12):=by have h1:=H4.out.2.2.2.2.1; have h2:=G12.out; omega
      clear G12 G13 G15 G22
      have q0:=B13.c0 (KeptK.refl kb wc)
      have q1:=B13.c1 (KeptK.refl kb wc)
      have q2:=B15.c0 (KeptK.refl kb wc)
      have q3:=B15.c1 (KeptK.refl kb wc)
      have q4:=B22.c0 (KeptK.refl kb wc)
      have q5:=B22.c1 (KeptK.refl kb wc)
      have q6:=B12.c0 (KeptK.refl kb wc)
      have q7:=B12.c1 (KeptK.refl kb wc)
      go_wp2_with fail
      go_region_held3 (fun w' => w'.cell? ⟨p13,0,none⟩ = some (.bool s13)/\w'.cell? ⟨p13,1,none⟩ = some (.slice a13 k13 c13)/\w'.cell? ⟨p15,0,none⟩ = some (.bool s15)/\w'.cell? ⟨p15,1,none⟩ = some (.slice a15 k15 c15)/\w'.cell? ⟨p22,0,none⟩ = some (.bool s24)/\w'.cell? ⟨p22,1,none⟩ = some (.slice a24 k24 c24)/\w'.cell? ⟨p12,0,none⟩ = some (.bool false)/\w'.cell? ⟨p12,1,none⟩ = some (.slice a10 k10 c10)) (go_keep) (first
       | (go_at_call 128; refine (add_q kb x18 s13 s15 (.slice a13 k13 c13) (.slice a15 k15 c15) l13 l15 _ (hF.kept (Kept.refl _).drew) (B13.sl (KeptK.of (Kept.refl _).drew)) (B15.sl (KeptK.of (Kept.refl _).drew)) (R.of_right H11.out.1) (R.of_right H12b.out.1)).mono ?_; rintro e w19 ⟨hk19,x19,s25,a25,k25,c25,l25,rfl,hF19,n25,r25,hx19,hy19,_,_⟩; have K19:=(KeptK.of (kb:=kb) (Kept.refl wc).drew).trans hk19; rw [H11.out.2.2.1,H12b.out.2.2.1] at hx19 hy19; have H19:=hid (And.intro r25 (And.intro hx19 hy19)); clear r25 hx19 hy19; have d0:=B13.c0 K19; have d1:=B13.c1 K19; have d2:=B15.c0 K19; have d3:=B15.c1 K19; have d4:=B22.c0 K19; have d5:=B22.c1 K19; have d6:=B12.c0 K19; have d7:=B12.c1 K19)
       | (go_at_call 129; refine (join_q kb x19 s25 s24 a25 a24 a10 k25 c25 k24 c24 k10 c10 l25 l24 l10 _ hF19 n25.sl (B22.sl K19) (B12.sl K19) (R.of_right H19.out.1) (R.of_right H22.out.1) (R.of_right H12.out.1)).mono ?_; rintro e w20 ⟨hk20,x20,s26,a26,k26,c26,l26,rfl,hF20,n26,r26,hx20,hy20⟩; have K20:=K19.trans hk20; have H20:=hid (And.intro r26 (And.intro hx20 hy20)); clear r26 hx20 hy20; have f0:=B13.c0 K20; have f1:=B13.c1 K20; have f2:=B15.c0 K20; have f3:=B15.c1 K20; have f4:=B22.c0 K20; have f5:=B22.c1 K20; have f6:=B12.c0 K20; have f7:=B12.c1 K20)
       | (go_at_call 97; refine (answer_q kb x20 s26 false a26 a10 k26 c26 k10 c10 _ hF20).mono ?_; rintro e w21 ⟨hk21,y0,y2,z1,z3,j1,e1,j3,e3,er,rfl,hcase⟩; have K21:=K20.then hk21; have HCA:=hid hcase; clear hcase; have g0:=B13.c0 K21; have g1:=B13.c1 K21; have g2:=B15.c0 K21; have g3:=B15.c1 K21; have g4:=B22.c0 K21; have g5:=B22.c1 K21; have g6:=B12.c0 K21; have g7:=B12.c1 K21; have r4:=R4.keptK nk K21; have i0:=r4.c0; have i1:=r4.c1; have i2:=r4.c2; have i3:=r4.c3; have o0:=r4.fz 0; have o1:=r4.fz 1; have o2:=r4.fz 2; have o3:=r4.fz 3))
      clear q0 q1 q2 q3 q4 q5 q6 q7 d0 d1 d2 d3 d4 d5 d6 d7 f0 f1 f2 f3 f4 f5 f6 f7 g0 g1 g2 g3 g4 g5 g6 g7
      have HZ:Hid (W.heap.size<=w19.heap.size):=(KK.trans K19).size
      have HKK:Hid (KeptK kb W w21/\KeptK kb _ w21):=⟨KK.trans K21,KN.trans K21⟩
      have HN26:Hid (New w19.heap.size w21 (.slice a26 k26 c26) l26):=New.kept n26 hk21
      clear KK KN K19 K20 K21 hk19 hk20 hk21 hF19 hF20 n25 n26 hF B12 B13 B15 B22 R4 r4
      go_wp2
      obtain ⟨_,t2,t3,t4,t5,t6,t7⟩:=H4.out
      have hkw:Kept w w21:=KeptK.out t2 HKK.out.1 t3
      have hz:=HZ.out
      have FL:=FM.flags (W:=M.W72) H12.out.2.1 H12.out.2.2.1 H13.out.2.2.2.1 H13.out.2.2.2.2 H14.out.2.2.2.1 H14.out.2.2.2.2 H21.out.2.2.1 H21.out.2.2.2 H22.out.2.1 H22.out.2.2.1 H22.out.2.2.2.1 H22.out.2.2.2.2.1 H21.out.2.1 H19.out.2.1 H19.out.2.2 H20.out.2.1 H20.out.2.2 (by have:=HT0.out.2.2.2.2; omega) HC0.out.2
      refine bodyPost_ret (v:=.tuple #[.agg #[.bool y0,.slice z1 j1 e1,.bool y2,.slice z3 j3 e3],.int .i64 er]) (by simp [results,Tryz.results99,go_sem,i0,i1,i2,i3]) rfl ⟨?_,?_⟩
      ·
       exact (((hkw.setCell t6 _).setCell t6 _).setCell t6 _).setCell t6 _
      ·
       rcases HCA.out with ⟨h0,rfl,rfl,rfl,rfl,rfl,rfl,rfl,rfl,rfl⟩ | ⟨h0,rfl,rfl,rfl,rfl,rfl,rfl,rfl,rfl,rfl⟩
       ·
        obtain ⟨v1,v2⟩:=FL.1 h0
        exact .inl ⟨_,rfl,_,_,_,_,_,_,_,_,_,_,rfl,(set4 HN26.out (by omega) _ _ _ _).mono (by omega),H20.out.1,v2,(set4 (New.keptK HN12.out.1 HN12.out.2 HKK.out.2) t5 _ _ _ _).mono t7,H12.out.1,v1⟩
       ·
        refine .inr ⟨rfl,fun hf => ?_⟩
        have hD:(((oA * (g' * oB):Nat):Int)).natAbs < M.W72:=by rw [Int.natAbs_natCast]; exact hf.2
        obtain ⟨z1,z2,z3,z4,z5,z6,z7,z8,z9⟩:=FM.all_fit HP.out HT0.out.2.1 HT0.out.2.2.1 HT0.out.2.2.2.2 HC0.out.1 HC0.out.2 HD.out.2.2.2.2.2.2.1 HD.out.2.2.2.2.2.2.2 hf.2 hf.1
        have:=FL.2 hD hf.1 z1 z2 z3 z4 z5 z6 z7 (by rw [Int.natAbs_natCast]; exact z8) z9
        rw [this] at h0
        simp at h0
end F
end Go.Proofs.YthfbfbfambbkaaaGreatDoor

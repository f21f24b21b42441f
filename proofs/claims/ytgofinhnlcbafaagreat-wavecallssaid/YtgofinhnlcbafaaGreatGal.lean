/- divisor and Gcd of limb. Gcd and Exact of limb. -/
import Derived.Test.YtgofinhnlcbafaaGreatGak
namespace Go.Proofs.YtgofinhnlcbafaaGreat
open Go.RowKit
def rdv (w:World):Value→Nat
 | .slice (some a) n _ => M.val ((List.range n).map (fun j => match w.cell? ⟨a.block,a.off + j,none⟩ with | some (.int _ x) => x.toNat | _ => 0))
 | _ => 0
theorem rdv_of {w:World} {v:Value} {l:List Nat} (h:Sl w v l):rdv w v = M.val l:=by
 obtain ⟨hb,ao,cap,rfl,hx⟩:=h
 cases ao with
 | none =>
  by_cases h0:0 < l.length
  ·
   obtain ⟨_,b,off,e,_⟩:=hx h0
   cases e
  ·
   have h1:l = []:=List.length_eq_zero_iff.1 (by omega)
   subst h1; rfl
 | some ad =>
  by_cases h0:0 < l.length
  ·
   obtain ⟨_,b,off,e,_,hc⟩:=hx h0
   cases e
   show M.val ((List.range l.length).map (fun j => match w.cell? ⟨b,off + j,none⟩ with | some (.int _ x) => x.toNat | _ => 0)) = M.val l
   congr 1
   apply List.ext_getElem (by simp)
   intro j h1 h2
   simp only [List.getElem_map,List.getElem_range]
   rw [hc j h2]
   simp [List.getD_eq_getElem?_getD,List.getElem?_eq_getElem h2]
  ·
   have h1:l = []:=List.length_eq_zero_iff.1 (by omega)
   subst h1; rfl
def DvrIs (B:Nat) (w':World) (e:Ending) (g:Nat):Prop:=∃ v l,e = .returned v∧New B w' v l∧M.Tr l∧M.val l = g
theorem New.slice {B:Nat} {w:World} {v:Value} {l:List Nat} (h:New B w v l):∃ ao cap,v = .slice ao l.length cap:=h.shape
set_option maxRecDepth 100000 in
set_option maxHeartbeats 4000000 in
theorem divisor_ge (va vb:Value) (a b:List Nat) (w:World) (ha:Sl w va a) (hb:Sl w vb b) (hla:a.length≤900) (hlb:b.length≤900) (ta:M.Tr a) (tb:M.Tr b) (hle:M.val b≤M.val a) :
  Calls Tryz.prog 119 #[va,vb] w fun e w' => Kept w w'∧DvrIs w.heap.size w' e (Nat.gcd (M.val a) (M.val b)):=by
 have HA:Hid (Sl w va a):=ha
 have HB:Hid (Sl w vb b):=hb
 have HT:Hid (M.Tr a∧M.Tr b∧M.val b≤M.val a):=⟨ta,tb,by omega⟩
 have HSG:Hid (M.val b≤M.val a):=hle
 obtain ⟨g,hg⟩:∃ g,g = Nat.gcd (M.val a) (M.val b):=⟨_,rfl⟩
 have HG:Hid (g = Nat.gcd (M.val a) (M.val b)):=by rw [hg]; rfl
 rw [← hg]
 clear ha hb ta tb hle hg
 go_enter Tryz.func119,Tryz.ntmps119
 go_wp2_with fail
 refine (compare_any va vb a b _ HA.out HB.out (by omega) (by omega) HT.out.1 HT.out.2.1).mono ?_
 rintro e w0 ⟨rfl,nq,rfl⟩
 have hs:0≤sgn (M.val a) (M.val b):=by unfold sgn; have:=HSG.out; split <;> omega
 generalize sgn (M.val a) (M.val b) = sg at *
 go_wp2_with fail
 refine (dup_any _ (HA.out.kept ((Kept.refl w).drewN nq)) (by omega)).mono ?_
 rintro e w1 ⟨hk1,vx,rfl,hn1⟩
 have HK1:Hid (Kept w w1∧New w.heap.size w1 vx a):=⟨((Kept.refl w).drewN nq).trans hk1,hn1⟩
 clear hk1 hn1
 go_wp2_with fail
 refine (dup_any _ (HB.out.kept HK1.out.1) (by omega)).mono ?_
 rintro e w2 ⟨hk2,vy,rfl,hn2⟩
 have HK2:Hid (Kept w w2∧New w.heap.size w2 vx a∧New w.heap.size w2 vy b):=⟨HK1.out.1.trans hk2,HK1.out.2.kept hk2,hn2.mono HK1.out.1.size⟩
 clear hk2 hn2 HK1
 go_wp2
 go_loopw [5,6] (fun ux uy wr => ∃ (x y:List Nat) (aox aoy:Option Addr) (nx ny capx capy:Nat),ux = .slice aox nx capx∧uy = .slice aoy ny capy∧nx≤900∧ny≤nx ∧
   Hid (nx = x.length∧ny = y.length∧New w.heap.size wr (.slice aox nx capx) x∧New w.heap.size wr (.slice aoy ny capy) y∧M.Tr x∧M.Tr y∧M.val y≤M.val x∧g = Nat.gcd (M.val x) (M.val y)∧Kept w wr)) (fun ux uy wr => rdv wr ux + rdv wr uy)
 case atStart =>
  obtain ⟨aox,capx,rfl⟩:=HK2.out.2.1.shape
  obtain ⟨aoy,capy,rfl⟩:=HK2.out.2.2.shape
  exact ⟨a,b,aox,aoy,a.length,b.length,capx,capy,rfl,rfl,hla,M.len_le_of_val_le HT.out.2.1 HK2.out.2.1.1 HT.out.2.2,rfl,rfl,HK2.out.2.1,HK2.out.2.2,HT.out.1,HT.out.2.1,HT.out.2.2,HG.out,HK2.out.1⟩
 case round =>
  obtain ⟨x,y,aox,aoy,nx,ny,capx,capy,rfl,rfl,hnx,hny,hr⟩:=hrel
  by_cases h2:2 < ny
  ·
   go_wp2_with fail
   obtain ⟨e1,e2,hNx,hNy,tx,ty,hyx,hg,hk⟩:=hr.out
   refine (leading_any _ _ x y _ hNx.sl hNy.sl (by omega) (by omega) (by omega) tx hyx).mono ?_
   rintro e w3 ⟨⟨k3,rfl⟩,A,B,K,rfl,hA,hBA,hT⟩
   have HTT:Hid (Leh.Tops A B K (M.val x) (M.val y)):=hT
   clear e1 e2 hNx hNy tx ty hyx hg hk hT
   go_wp2_with fail
   refine (surely_any A B _ hA hBA).mono ?_
   rintro e w4 ⟨hk4,aa,bb,x0,y0,x1,y1,x2,y2,t,rfl,hst⟩
   have HST:Hid (Leh.St A B aa bb x0 y0 x1 y1 x2 y2 t∧Kept wr w4):=⟨hst,((Kept.refl wr).drewN k3).trans hk4⟩
   clear hst hk4
   go_wp2_with fail
   refine (some_any x0 y0 x1 y1 t _).mono ?_
   rintro e w5 ⟨hk5,rfl⟩
   have hc5:=box5_kept hk5
   have HK5:Hid (Kept wr w5):=(HST.out.2.alloc _).trans hk5
   clear hk5
   by_cases hy0:y0 = 0
   ·
    have hd:decide (y0 ≠ 0) = false:=by simp [hy0]
    rw [hd]
    clear hc5
    go_wp2_with fail
    obtain ⟨e1,e2,hNx,hNy,tx,ty,hyx,hg,hk⟩:=hr.out
    refine (divide_any _ _ x y _ (hNx.sl.kept HK5.out) (hNy.sl.kept HK5.out) (by omega) (by omega) tx ty (by omega)).mono ?_
    rintro e w6 ⟨hk6,vq,q,vr,r,rfl,hnq,hnr,htq,htr,hlq,hval,hlt⟩
    obtain ⟨ar,cr,rfl⟩:=hnr.shape
    have hlr:r.length≤ny:=by rw [e2]; exact M.len_le_of_val_le htr hNy.1 (Nat.le_of_lt hlt)
    have HF:Hid (ny = y.length∧New w.heap.size w6 (.slice aoy ny capy) y∧New w.heap.size w6 (.slice ar r.length cr) r∧M.Tr y∧M.Tr r∧M.val r < M.val y∧g = Nat.gcd (M.val y) (M.val r)∧Kept w w6):=by
     refine ⟨e2,(hNy.kept HK5.out).kept hk6,hnr.mono (hk.trans HK5.out).size,ty,htr,hlt,?_,(hk.trans HK5.out).trans hk6⟩
     rw [hg,Nat.gcd_comm,Nat.gcd_rec,hval,Nat.mul_comm,Nat.mul_add_mod,Nat.mod_eq_of_lt hlt,Nat.gcd_comm]
    have HM:Hid (rdv wr (.slice aox nx capx) = M.val x∧rdv wr (.slice aoy ny capy) = M.val y∧M.val y≤M.val x):=⟨rdv_of hNx.sl,rdv_of hNy.sl,hyx⟩
    have hny9:ny≤900:=by omega
    clear e1 e2 hNx hNy tx ty hyx hg hk hk6 hnq hnr htq htr hlq hval hlt
    go_wp2
    go_roundw
    case rel => exact ⟨y,r,aoy,ar,ny,r.length,capy,cr,rfl,rfl,hny9,hlr,HF.out.1,rfl,HF.out.2.1,HF.out.2.2.1,HF.out.2.2.2.1,HF.out.2.2.2.2.1,Nat.le_of_lt HF.out.2.2.2.2.2.1,HF.out.2.2.2.2.2.2.1,HF.out.2.2.2.2.2.2.2⟩
    case measure =>
     have h1:=rdv_of HF.out.2.1.sl
     have h2:=rdv_of HF.out.2.2.1.sl
     have h3:=HM.out
     have h4:=HF.out.2.2.2.2.2.1
     show rdv w6 (.slice aoy ny capy) + rdv w6 (.slice ar r.length cr) < rdv wr (.slice aox nx capx) + rdv wr (.slice aoy ny capy)
     omega
   ·
    have hd:decide (y0 ≠ 0) = true:=by simp [hy0]
    rw [hd]
    obtain ⟨hc50,hc51,hc52,hc53,hc54⟩:=hc5
    go_wp2_with fail
    obtain ⟨e1,e2,hNx,hNy,tx,ty,hyx,hg,hk⟩:=hr.out
    obtain ⟨N0,N1,hN0,hN1,h10,h0Y,hsum,hgcd⟩:=Leh.st_done HST.out.1 hy0 HTT.out
    obtain ⟨c0,c1,c2,c3,_⟩:=Leh.st_bounds hA hBA HST.out.1
    have hX:=M.val_lt hNx.1
    rw [← e1] at hX
    have hC:Calls Tryz.prog 131 #[.agg #[.int .u64 (x0:Int),.int .u64 (y0:Int),.int .u64 (x1:Int),.int .u64 (y1:Int),.bool t],.slice aox nx capx,.slice aoy ny capy] w5 fun e w' => Kept w5 w'∧AppIs w5.heap.size w' e N0 N1 nx:=by
     cases t with
     | true =>
      refine apply_turned _ _ x y x0 y0 x1 y1 N0 N1 nx w5 (hNx.sl.kept HK5.out) (hNy.sl.kept HK5.out) e1.symm hnx (by omega) c0 c1 c2 c3 ?_ ?_ (by omega) (by omega)
      ·
       unfold Leh.e0 Leh.sg at hN0; simp only [if_true] at hN0
       have:((y0 * M.val y + N0:Nat):Int) = ((x0 * M.val x:Nat):Int):=by push_cast; omega
       exact_mod_cast this
      ·
       unfold Leh.e1 Leh.sg at hN1; simp only [if_true] at hN1
       have:((x1 * M.val x + N1:Nat):Int) = ((y1 * M.val y:Nat):Int):=by push_cast; omega
       exact_mod_cast this
     | false =>
      refine apply_plain _ _ x y x0 y0 x1 y1 N0 N1 nx w5 (hNx.sl.kept HK5.out) (hNy.sl.kept HK5.out) e1.symm hnx (by omega) c0 c1 c2 c3 ?_ ?_ (by omega) (by omega)
      ·
       unfold Leh.e0 Leh.sg at hN0; simp at hN0
       have:((x0 * M.val x + N0:Nat):Int) = ((y0 * M.val y:Nat):Int):=by push_cast; omega
       exact_mod_cast this
      ·
       unfold Leh.e1 Leh.sg at hN1; simp at hN1
       have:((y1 * M.val y + N1:Nat):Int) = ((x1 * M.val x:Nat):Int):=by push_cast; omega
       exact_mod_cast this
    refine hC.mono ?_
    rintro e w6 ⟨hk6,v0,l0,v1,l1,rfl,hn0,hn1,t0,t1,hv0,hv1,hl0,hl1⟩
    obtain ⟨a0,cc0,rfl⟩:=hn0.shape
    obtain ⟨a1,cc1,rfl⟩:=hn1.shape
    have hll:l1.length≤l0.length:=M.len_le_of_val_le t1 hn0.1 (by omega)
    have HF:Hid (New w.heap.size w6 (.slice a0 l0.length cc0) l0∧New w.heap.size w6 (.slice a1 l1.length cc1) l1∧M.Tr l0∧M.Tr l1∧M.val l1≤M.val l0∧g = Nat.gcd (M.val l0) (M.val l1)∧Kept w w6∧M.val l0 + M.val l1 < M.val x + M.val y):=by
     have hsz:=(hk.trans HK5.out).size
     refine ⟨hn0.mono hsz,hn1.mono hsz,t0,t1,by omega,?_,(hk.trans HK5.out).trans hk6,by omega⟩
     rw [hg,hv0,hv1,hgcd]
    have HM:Hid (rdv wr (.slice aox nx capx) = M.val x∧rdv wr (.slice aoy ny capy) = M.val y):=⟨rdv_of hNx.sl,rdv_of hNy.sl⟩
    have hl9:l0.length≤900:=by omega
    clear e1 e2 hNx hNy tx ty hyx hg hk hk6 hn0 hn1 t0 t1 hv0 hv1 hl0 hl1 hC hX hN0 hN1 h10 h0Y hsum hgcd hc50 hc51 hc52 hc53 hc54
    go_wp2
    go_roundw
    case rel => exact ⟨l0,l1,a0,a1,l0.length,l1.length,cc0,cc1,rfl,rfl,hl9,hll,rfl,rfl,HF.out.1,HF.out.2.1,HF.out.2.2.1,HF.out.2.2.2.1,HF.out.2.2.2.2.1,HF.out.2.2.2.2.2.1,HF.out.2.2.2.2.2.2.1⟩
    case measure =>
     have h1:=rdv_of HF.out.1.sl
     have h2:=rdv_of HF.out.2.1.sl
     have h3:=HM.out
     have h4:=HF.out.2.2.2.2.2.2.2
     show rdv w6 (.slice a0 l0.length cc0) + rdv w6 (.slice a1 l1.length cc1) < rdv wr (.slice aox nx capx) + rdv wr (.slice aoy ny capy)
     omega
  ·
   by_cases h0:ny = 0
   ·
    subst h0
    have HF:Hid (Kept w wr∧New w.heap.size wr (.slice aox nx capx) x∧M.Tr x∧M.val x = g):=by
     obtain ⟨e1,e2,hNx,hNy,tx,ty,hyx,hg,hk⟩:=hr.out
     have:y = []:=List.length_eq_zero_iff.1 e2.symm
     subst this
     exact ⟨hk,hNx,tx,by rw [hg]; simp [M.val]⟩
    clear hr
    go_wp2
    go_ret
    exact ⟨HF.out.1,_,x,rfl,HF.out.2.1,HF.out.2.2.1,HF.out.2.2.2⟩
   ·
    have hz:((ny:Int) == 0) = false:=by simp; omega
    go_wp2_with fail
    obtain ⟨e1,e2,hNx,hNy,tx,ty,hyx,hg,hk⟩:=hr.out
    refine (divide_any _ _ x y _ hNx.sl hNy.sl (by omega) (by omega) tx ty (by omega)).mono ?_
    rintro e w6 ⟨hk6,vq,q,vr,r,rfl,hnq,hnr,htq,htr,hlq,hval,hlt⟩
    have hlr:r.length≤ny:=by rw [e2]; exact M.len_le_of_val_le htr hNy.1 (Nat.le_of_lt hlt)
    have hyb:M.val y < 18446744073709551616:=by
     have h9:=M.val_lt hNy.1
     rw [← e2] at h9
     have h8:4294967296 ^ ny≤4294967296 ^ 2:=Nat.pow_le_pow_right (by decide) (by omega)
     have h7:4294967296 ^ 2 = 18446744073709551616:=by decide
     omega
    have HF:Hid (y.length≤2∧r.length≤2∧Sl w6 (.slice aoy ny capy) y∧Sl w6 vr r∧M.val r < M.val y∧g = Nat.gcd (M.val y) (M.val r)∧Kept w w6):=by
     refine ⟨by omega,by omega,(hNy.kept hk6).sl,hnr.sl,hlt,?_,hk.trans hk6⟩
     rw [hg,Nat.gcd_comm,Nat.gcd_rec,hval,Nat.mul_comm,Nat.mul_add_mod,Nat.mod_eq_of_lt hlt,Nat.gcd_comm]
    have hrb:M.val r < 18446744073709551616:=by omega
    clear e1 e2 hNx hNy tx ty hyx hg hk hk6 hnq hnr htq htr hlq hval hlt hr hlr
    go_wp2_with fail
    refine (toWord_any _ HF.out.2.2.1 HF.out.1).mono ?_
    rintro e w7 ⟨hk7,rfl⟩
    have HK7:Hid (Kept w6 w7):=hk7
    clear hk7
    go_wp2_with fail
    refine (toWord_any _ (HF.out.2.2.2.1.kept HK7.out) HF.out.2.1).mono ?_
    rintro e w8 ⟨hk8,rfl⟩
    have HK8:Hid (Kept w6 w8):=HK7.out.trans hk8
    clear hk8
    go_wp2_with fail
    refine (wordDivisor_any (M.val y) (M.val r) _ hyb hrb).mono ?_
    rintro e w9 ⟨rfl,k9,rfl⟩
    have hgb:Nat.gcd (M.val y) (M.val r) < 18446744073709551616:=Nat.lt_of_le_of_lt (Nat.gcd_le_left _ (by have:=HF.out.2.2.2.2.1; omega)) hyb
    go_wp2_with fail
    refine (fromWord_any _ _ hgb).mono ?_
    rintro e w10 ⟨hk10,v',l',rfl,hn',ht',hv',hl'⟩
    have hk8:Kept w w8:=HF.out.2.2.2.2.2.2.trans HK8.out
    have HE:Hid (Kept w w10∧New w.heap.size w10 v' l'∧M.Tr l'∧M.val l' = g):=by
     refine ⟨(hk8.drewN k9).trans hk10,hn'.mono (hk8.drewN k9).size,ht',?_⟩
     rw [hv',HF.out.2.2.2.2.2.1]
    clear hk10 hn' ht' hv' hl' hgb hyb hrb hk8
    go_wp2
    go_ret
    exact ⟨HE.out.1,v',l',rfl,HE.out.2⟩
set_option maxRecDepth 100000 in
set_option maxHeartbeats 4000000 in
theorem divisor_lt (va vb:Value) (a b:List Nat) (w:World) (ha:Sl w va a) (hb:Sl w vb b) (hla:a.length≤900) (hlb:b.length≤900) (ta:M.Tr a) (tb:M.Tr b) (hle:M.val a < M.val b) :
  Calls Tryz.prog 119 #[va,vb] w fun e w' => Kept w w'∧DvrIs w.heap.size w' e (Nat.gcd (M.val a) (M.val b)):=by
 have HA:Hid (Sl w va a):=ha
 have HB:Hid (Sl w vb b):=hb
 have HT:Hid (M.Tr b∧M.Tr a∧M.val a≤M.val b):=⟨tb,ta,by omega⟩
 have HSG:Hid (M.val a < M.val b):=hle
 obtain ⟨g,hg⟩:∃ g,g = Nat.gcd (M.val a) (M.val b):=⟨_,rfl⟩
 have HG:Hid (g = Nat.gcd (M.val b) (M.val a)):=by rw [hg]; exact Nat.gcd_comm _ _
 rw [← hg]
 clear ha hb ta tb hle hg
 go_enter Tryz.func119,Tryz.ntmps119
 go_wp2_with fail
 refine (compare_any va vb a b _ HA.out HB.out (by omega) (by omega) HT.out.2.1 HT.out.1).mono ?_
 rintro e w0 ⟨rfl,nq,rfl⟩
 have hs:sgn (M.val a) (M.val b) < 0:=by unfold sgn; have:=HSG.out; split <;> omega
 generalize sgn (M.val a) (M.val b) = sg at *
 go_wp2_with fail
 refine (dup_any _ (HB.out.kept ((Kept.refl w).drewN nq)) (by omega)).mono ?_
 rintro e w1 ⟨hk1,vx,rfl,hn1⟩
 have HK1:Hid (Kept w w1∧New w.heap.size w1 vx b):=⟨((Kept.refl w).drewN nq).trans hk1,hn1⟩
 clear hk1 hn1
 go_wp2_with fail
 refine (dup_any _ (HA.out.kept HK1.out.1) (by omega)).mono ?_
 rintro e w2 ⟨hk2,vy,rfl,hn2⟩
 have HK2:Hid (Kept w w2∧New w.heap.size w2 vx b∧New w.heap.size w2 vy a):=⟨HK1.out.1.trans hk2,HK1.out.2.kept hk2,hn2.mono HK1.out.1.size⟩
 clear hk2 hn2 HK1
 go_wp2
 go_loopw [5,6] (fun ux uy wr => ∃ (x y:List Nat) (aox aoy:Option Addr) (nx ny capx capy:Nat),ux = .slice aox nx capx∧uy = .slice aoy ny capy∧nx≤900∧ny≤nx ∧
   Hid (nx = x.length∧ny = y.length∧New w.heap.size wr (.slice aox nx capx) x∧New w.heap.size wr (.slice aoy ny capy) y∧M.Tr x∧M.Tr y∧M.val y≤M.val x∧g = Nat.gcd (M.val x) (M.val y)∧Kept w wr)) (fun ux uy wr => rdv wr ux + rdv wr uy)
 case atStart =>
  obtain ⟨aox,capx,rfl⟩:=HK2.out.2.1.shape
  obtain ⟨aoy,capy,rfl⟩:=HK2.out.2.2.shape
  exact ⟨b,a,aox,aoy,b.length,a.length,capx,capy,rfl,rfl,hlb,M.len_le_of_val_le HT.out.2.1 HK2.out.2.1.1 HT.out.2.2,rfl,rfl,HK2.out.2.1,HK2.out.2.2,HT.out.1,HT.out.2.1,HT.out.2.2,HG.out,HK2.out.1⟩
 case round =>
  obtain ⟨x,y,aox,aoy,nx,ny,capx,capy,rfl,rfl,hnx,hny,hr⟩:=hrel
  by_cases h2:2 < ny
  ·
   go_wp2_with fail
   obtain ⟨e1,e2,hNx,hNy,tx,ty,hyx,hg,hk⟩:=hr.out
   refine (leading_any _ _ x y _ hNx.sl hNy.sl (by omega) (by omega) (by omega) tx hyx).mono ?_
   rintro e w3 ⟨⟨k3,rfl⟩,A,B,K,rfl,hA,hBA,hT⟩
   have HTT:Hid (Leh.Tops A B K (M.val x) (M.val y)):=hT
   clear e1 e2 hNx hNy tx ty hyx hg hk hT
   go_wp2_with fail
   refine (surely_any A B _ hA hBA).mono ?_
   rintro e w4 ⟨hk4,aa,bb,x0,y0,x1,y1,x2,y2,t,rfl,hst⟩
   have HST:Hid (Leh.St A B aa bb x0 y0 x1 y1 x2 y2 t∧Kept wr w4):=⟨hst,((Kept.refl wr).drewN k3).trans hk4⟩
   clear hst hk4
   go_wp2_with fail
   refine (some_any x0 y0 x1 y1 t _).mono ?_
   rintro e w5 ⟨hk5,rfl⟩
   have hc5:=box5_kept hk5
   have HK5:Hid (Kept wr w5):=(HST.out.2.alloc _).trans hk5
   clear hk5
   by_cases hy0:y0 = 0
   ·
    have hd:decide (y0 ≠ 0) = false:=by simp [hy0]
    rw [hd]
    clear hc5
    go_wp2_with fail
    obtain ⟨e1,e2,hNx,hNy,tx,ty,hyx,hg,hk⟩:=hr.out
    refine (divide_any _ _ x y _ (hNx.sl.kept HK5.out) (hNy.sl.kept HK5.out) (by omega) (by omega) tx ty (by omega)).mono ?_
    rintro e w6 ⟨hk6,vq,q,vr,r,rfl,hnq,hnr,htq,htr,hlq,hval,hlt⟩
    obtain ⟨ar,cr,rfl⟩:=hnr.shape
    have hlr:r.length≤ny:=by rw [e2]; exact M.len_le_of_val_le htr hNy.1 (Nat.le_of_lt hlt)
    have HF:Hid (ny = y.length∧New w.heap.size w6 (.slice aoy ny capy) y∧New w.heap.size w6 (.slice ar r.length cr) r∧M.Tr y∧M.Tr r∧M.val r < M.val y∧g = Nat.gcd (M.val y) (M.val r)∧Kept w w6):=by
     refine ⟨e2,(hNy.kept HK5.out).kept hk6,hnr.mono (hk.trans HK5.out).size,ty,htr,hlt,?_,(hk.trans HK5.out).trans hk6⟩
     rw [hg,Nat.gcd_comm,Nat.gcd_rec,hval,Nat.mul_comm,Nat.mul_add_mod,Nat.mod_eq_of_lt hlt,Nat.gcd_comm]
    have HM:Hid (rdv wr (.slice aox nx capx) = M.val x∧rdv wr (.slice aoy ny capy) = M.val y∧M.val y≤M.val x):=⟨rdv_of hNx.sl,rdv_of hNy.sl,hyx⟩
    have hny9:ny≤900:=by omega
    clear e1 e2 hNx hNy tx ty hyx hg hk hk6 hnq hnr htq htr hlq hval hlt
    go_wp2
    go_roundw
    case rel => exact ⟨y,r,aoy,ar,ny,r.length,capy,cr,rfl,rfl,hny9,hlr,HF.out.1,rfl,HF.out.2.1,HF.out.2.2.1,HF.out.2.2.2.1,HF.out.2.2.2.2.1,Nat.le_of_lt HF.out.2.2.2.2.2.1,HF.out.2.2.2.2.2.2.1,HF.out.2.2.2.2.2.2.2⟩
    case measure =>
     have h1:=rdv_of HF.out.2.1.sl
     have h2:=rdv_of HF.out.2.2.1.sl
     have h3:=HM.out
     have h4:=HF.out.2.2.2.2.2.1
     show rdv w6 (.slice aoy ny capy) + rdv w6 (.slice ar r.length cr) < rdv wr (.slice aox nx capx) + rdv wr (.slice aoy ny capy)
     omega
   ·
    have hd:decide (y0 ≠ 0) = true:=by simp [hy0]
    rw [hd]
    obtain ⟨hc50,hc51,hc52,hc53,hc54⟩:=hc5
    go_wp2_with fail
    obtain ⟨e1,e2,hNx,hNy,tx,ty,hyx,hg,hk⟩:=hr.out
    obtain ⟨N0,N1,hN0,hN1,h10,h0Y,hsum,hgcd⟩:=Leh.st_done HST.out.1 hy0 HTT.out
    obtain ⟨c0,c1,c2,c3,_⟩:=Leh.st_bounds hA hBA HST.out.1
    have hX:=M.val_lt hNx.1
    rw [← e1] at hX
    have hC:Calls Tryz.prog 131 #[.agg #[.int .u64 (x0:Int),.int .u64 (y0:Int),.int .u64 (x1:Int),.int .u64 (y1:Int),.bool t],.slice aox nx capx,.slice aoy ny capy] w5 fun e w' => Kept w5 w'∧AppIs w5.heap.size w' e N0 N1 nx:=by
     cases t with
     | true =>
      refine apply_turned _ _ x y x0 y0 x1 y1 N0 N1 nx w5 (hNx.sl.kept HK5.out) (hNy.sl.kept HK5.out) e1.symm hnx (by omega) c0 c1 c2 c3 ?_ ?_ (by omega) (by omega)
      ·
       unfold Leh.e0 Leh.sg at hN0; simp only [if_true] at hN0
       have:((y0 * M.val y + N0:Nat):Int) = ((x0 * M.val x:Nat):Int):=by push_cast; omega
       exact_mod_cast this
      ·
       unfold Leh.e1 Leh.sg at hN1; simp only [if_true] at hN1
       have:((x1 * M.val x + N1:Nat):Int) = ((y1 * M.val y:Nat):Int):=by push_cast; omega
       exact_mod_cast this
     | false =>
      refine apply_plain _ _ x y x0 y0 x1 y1 N0 N1 nx w5 (hNx.sl.kept HK5.out) (hNy.sl.kept HK5.out) e1.symm hnx (by omega) c0 c1 c2 c3 ?_ ?_ (by omega) (by omega)
      ·
       unfold Leh.e0 Leh.sg at hN0; simp at hN0
       have:((x0 * M.val x + N0:Nat):Int) = ((y0 * M.val y:Nat):Int):=by push_cast; omega
       exact_mod_cast this
      ·
       unfold Leh.e1 Leh.sg at hN1; simp at hN1
       have:((y1 * M.val y + N1:Nat):Int) = ((x1 * M.val x:Nat):Int):=by push_cast; omega
       exact_mod_cast this
    refine hC.mono ?_
    rintro e w6 ⟨hk6,v0,l0,v1,l1,rfl,hn0,hn1,t0,t1,hv0,hv1,hl0,hl1⟩
    obtain ⟨a0,cc0,rfl⟩:=hn0.shape
    obtain ⟨a1,cc1,rfl⟩:=hn1.shape
    have hll:l1.length≤l0.length:=M.len_le_of_val_le t1 hn0.1 (by omega)
    have HF:Hid (New w.heap.size w6 (.slice a0 l0.length cc0) l0∧New w.heap.size w6 (.slice a1 l1.length cc1) l1∧M.Tr l0∧M.Tr l1∧M.val l1≤M.val l0∧g = Nat.gcd (M.val l0) (M.val l1)∧Kept w w6∧M.val l0 + M.val l1 < M.val x + M.val y):=by
     have hsz:=(hk.trans HK5.out).size
     refine ⟨hn0.mono hsz,hn1.mono hsz,t0,t1,by omega,?_,(hk.trans HK5.out).trans hk6,by omega⟩
     rw [hg,hv0,hv1,hgcd]
    have HM:Hid (rdv wr (.slice aox nx capx) = M.val x∧rdv wr (.slice aoy ny capy) = M.val y):=⟨rdv_of hNx.sl,rdv_of hNy.sl⟩
    have hl9:l0.length≤900:=by omega
    clear e1 e2 hNx hNy tx ty hyx hg hk hk6 hn0 hn1 t0 t1 hv0 hv1 hl0 hl1 hC hX hN0 hN1 h10 h0Y hsum hgcd hc50 hc51 hc52 hc53 hc54
    go_wp2
    go_roundw
    case rel => exact ⟨l0,l1,a0,a1,l0.length,l1.length,cc0,cc1,rfl,rfl,hl9,hll,rfl,rfl,HF.out.1,HF.out.2.1,HF.out.2.2.1,HF.out.2.2.2.1,HF.out.2.2.2.2.1,HF.out.2.2.2.2.2.1,HF.out.2.2.2.2.2.2.1⟩
    case measure =>
     have h1:=rdv_of HF.out.1.sl
     have h2:=rdv_of HF.out.2.1.sl
     have h3:=HM.out
     have h4:=HF.out.2.2.2.2.2.2.2
     show rdv w6 (.slice a0 l0.length cc0) + rdv w6 (.slice a1 l1.length cc1) < rdv wr (.slice aox nx capx) + rdv wr (.slice aoy ny capy)
     omega
  ·
   by_cases h0:ny = 0
   ·
    subst h0
    have HF:Hid (Kept w wr∧New w.heap.size wr (.slice aox nx capx) x∧M.Tr x∧M.val x = g):=by
     obtain ⟨e1,e2,hNx,hNy,tx,ty,hyx,hg,hk⟩:=hr.out
     have:y = []:=List.length_eq_zero_iff.1 e2.symm
     subst this
     exact ⟨hk,hNx,tx,by rw [hg]; simp [M.val]⟩
    clear hr
    go_wp2
    go_ret
    exact ⟨HF.out.1,_,x,rfl,HF.out.2.1,HF.out.2.2.1,HF.out.2.2.2⟩
   ·
    have hz:((ny:Int) == 0) = false:=by simp; omega
    go_wp2_with fail
    obtain ⟨e1,e2,hNx,hNy,tx,ty,hyx,hg,hk⟩:=hr.out
    refine (divide_any _ _ x y _ hNx.sl hNy.sl (by omega) (by omega) tx ty (by omega)).mono ?_
    rintro e w6 ⟨hk6,vq,q,vr,r,rfl,hnq,hnr,htq,htr,hlq,hval,hlt⟩
    have hlr:r.length≤ny:=by rw [e2]; exact M.len_le_of_val_le htr hNy.1 (Nat.le_of_lt hlt)
    have hyb:M.val y < 18446744073709551616:=by
     have h9:=M.val_lt hNy.1
     rw [← e2] at h9
     have h8:4294967296 ^ ny≤4294967296 ^ 2:=Nat.pow_le_pow_right (by decide) (by omega)
     have h7:4294967296 ^ 2 = 18446744073709551616:=by decide
     omega
    have HF:Hid (y.length≤2∧r.length≤2∧Sl w6 (.slice aoy ny capy) y∧Sl w6 vr r∧M.val r < M.val y∧g = Nat.gcd (M.val y) (M.val r)∧Kept w w6):=by
     refine ⟨by omega,by omega,(hNy.kept hk6).sl,hnr.sl,hlt,?_,hk.trans hk6⟩
     rw [hg,Nat.gcd_comm,Nat.gcd_rec,hval,Nat.mul_comm,Nat.mul_add_mod,Nat.mod_eq_of_lt hlt,Nat.gcd_comm]
    have hrb:M.val r < 18446744073709551616:=by omega
    clear e1 e2 hNx hNy tx ty hyx hg hk hk6 hnq hnr htq htr hlq hval hlt hr hlr
    go_wp2_with fail
    refine (toWord_any _ HF.out.2.2.1 HF.out.1).mono ?_
    rintro e w7 ⟨hk7,rfl⟩
    have HK7:Hid (Kept w6 w7):=hk7
    clear hk7
    go_wp2_with fail
    refine (toWord_any _ (HF.out.2.2.2.1.kept HK7.out) HF.out.2.1).mono ?_
    rintro e w8 ⟨hk8,rfl⟩
    have HK8:Hid (Kept w6 w8):=HK7.out.trans hk8
    clear hk8
    go_wp2_with fail
    refine (wordDivisor_any (M.val y) (M.val r) _ hyb hrb).mono ?_
    rintro e w9 ⟨rfl,k9,rfl⟩
    have hgb:Nat.gcd (M.val y) (M.val r) < 18446744073709551616:=Nat.lt_of_le_of_lt (Nat.gcd_le_left _ (by have:=HF.out.2.2.2.2.1; omega)) hyb
    go_wp2_with fail
    refine (fromWord_any _ _ hgb).mono ?_
    rintro e w10 ⟨hk10,v',l',rfl,hn',ht',hv',hl'⟩
    have hk8:Kept w w8:=HF.out.2.2.2.2.2.2.trans HK8.out
    have HE:Hid (Kept w w10∧New w.heap.size w10 v' l'∧M.Tr l'∧M.val l' = g):=by
     refine ⟨(hk8.drewN k9).trans hk10,hn'.mono (hk8.drewN k9).size,ht',?_⟩
     rw [hv',HF.out.2.2.2.2.2.1]
    clear hk10 hn' ht' hv' hl' hgb hyb hrb hk8
    go_wp2
    go_ret
    exact ⟨HE.out.1,v',l',rfl,HE.out.2⟩
end Go.Proofs.YtgofinhnlcbafaaGreat

namespace Go.Proofs.YtgofinhnlcbafaaGreat
open Go.RowKit
theorem divisor_any (va vb:Value) (a b:List Nat) (w:World) (ha:Sl w va a) (hb:Sl w vb b) (hla:a.length≤900) (hlb:b.length≤900) (ta:M.Tr a) (tb:M.Tr b) :
  Calls Tryz.prog 119 #[va,vb] w fun e w' => Kept w w'∧DvrIs w.heap.size w' e (Nat.gcd (M.val a) (M.val b)):=by
 by_cases h:M.val b≤M.val a
 ·
  exact divisor_ge va vb a b w ha hb hla hlb ta tb h
 ·
  exact divisor_lt va vb a b w ha hb hla hlb ta tb (by omega)
def GcdIs (B:Nat) (w':World) (e:Ending) (g:Nat):Prop:=∃ ao k cap l,e = .returned (.tuple #[.agg #[.bool false,.slice ao k cap],.int .i64 0])∧New B w' (.slice ao k cap) l∧M.Right false l∧M.val l = g
theorem gcd_len {a b l:List Nat} (ha:M.Bd a) (hb:M.Bd b) (hla:a.length≤72) (hlb:b.length≤72) (tl:M.Tr l) (h:M.val l = Nat.gcd (M.val a) (M.val b)):l.length≤72:=by
 by_cases h0:M.val a = 0
 ·
  rw [h0,Nat.gcd_zero_left] at h
  have:=M.len_le_of_val_le tl hb (by omega)
  omega
 ·
  have:=M.len_le_of_val_le tl ha (by rw [h]; exact Nat.gcd_le_left _ (by omega))
  omega
set_option maxHeartbeats 1000000 in
theorem gcd_any (m n:Bool) (va vb:Value) (a b:List Nat) (w:World) (ha:Sl w va a) (hb:Sl w vb b) (hra:R m a) (hrb:R n b) :
  Calls Tryz.prog 98 #[.agg #[.bool m,va],.agg #[.bool n,vb]] w fun e w' => Kept w w'∧GcdIs w.heap.size w' e (Nat.gcd (M.val a) (M.val b)):=by
 have HR:Hid (R m a∧R n b):=⟨hra,hrb⟩
 have HA:Hid (Sl w va a∧Sl w vb b):=⟨ha,hb⟩
 clear hra hrb ha hb
 have K3:∀ x y t,Kept w (((w.alloc x).alloc y).alloc t):=fun x y t => (((Kept.refl w).alloc x).alloc y).alloc t
 go_enter Tryz.func98,Tryz.ntmps98
 go_wp2_with fail
 refine (wrong_no m n va vb a b _ (HA.out.1.kept (K3 _ _ _)) (HA.out.2.kept (K3 _ _ _)) HR.out.1 HR.out.2).mono ?_
 rintro e w1 ⟨rfl,hk⟩
 have HKa:Hid (Kept (((w.alloc (.cells #[.bool m,va] 66)).alloc (.cells #[.bool n,vb] 66)).alloc (.cells #[.bool false,.slice none 0 0] 66)) w1):=hk
 have HK1:Hid (Kept w w1):=(K3 _ _ _).trans hk
 obtain ⟨hA0,hA1,hB0,hB1,hR0,hR1⟩:=box_kept3 hk
 clear hk
 go_wp2_with fail
 refine (divisor_any va vb a b _ (HA.out.1.kept HK1.out) (HA.out.2.kept HK1.out) (by have:=HR.out.1.1; omega) (by have:=HR.out.2.1; omega) HR.out.1.tr HR.out.2.tr).mono ?_
 rintro e w2 ⟨hk2,v,l,rfl,hn,ht,hv⟩
 have hl72:=gcd_len HA.out.1.bd HA.out.2.bd HR.out.1.1 HR.out.2.1 ht hv
 obtain ⟨ao,cap,rfl⟩:=hn.shape
 have HN:Hid (New w1.heap.size w2 (.slice ao l.length cap) l∧M.Tr l∧M.val l = Nat.gcd (M.val a) (M.val b)):=⟨hn,ht,hv⟩
 have HKb:Hid (Kept (((w.alloc (.cells #[.bool m,va] 66)).alloc (.cells #[.bool n,vb] 66)).alloc (.cells #[.bool false,.slice none 0 0] 66)) w2):=HKa.out.trans hk2
 clear hk2 hn ht hv hA0 hA1 hB0 hB1 hR0 hR1
 go_wp2_with fail
 refine (signed_any false ao l.length cap _ (by omega)).mono ?_
 rintro e w3 ⟨rfl,hk3⟩
 have hKc:=HKb.out.trans hk3
 obtain ⟨_,_,_,_,hR0,hR1⟩:=box_kept3 hKc
 have hf:=hKc.frozens
 have hsz:=HKa.out.size
 simp at hsz
 have HF:Hid (Kept w w3∧New (w.heap.size + 1 + 1 + 1) w3 (.slice ao l.length cap) l∧M.Right false l∧M.val l = Nat.gcd (M.val a) (M.val b)) :=
  ⟨(K3 _ _ _).trans hKc,(HN.out.1.kept hk3).mono hsz,⟨HN.out.1.1,HN.out.2.1,hl72,fun _ => rfl⟩,HN.out.2.2⟩
 clear hk3 hKc hsz
 rw [Bool.false_and]
 go_wp2
 exact bodyPost_ret (v:=.tuple #[.agg #[.bool false,.slice ao l.length cap],.int .i64 0]) (by simp [results,Tryz.results98,go_sem,hR0,hR1]) rfl
  ⟨(HF.out.1.setCell (by simp; omega) _).setCell (by simp; omega) _,ao,_,cap,l,rfl,((HF.out.2.1.other (by simp) _).other (by simp) _).mono (by omega),HF.out.2.2⟩
def ExaIs (B:Nat) (w':World) (e:Ending) (m n:Bool) (a b:List Nat):Prop:=∃ s ao k cap l,e = .returned (.tuple #[.agg #[.bool s,.slice ao k cap],.int .i64 0])∧New B w' (.slice ao k cap) l∧M.Right s l∧M.int s l * M.int n b = M.int m a
theorem exa_int {m n:Bool} {a b q:List Nat} (h:M.val a = M.val q * M.val b):M.int (m != n) q * M.int n b = M.int m a:=by
 unfold M.int
 cases m <;> cases n <;> simp [h,Int.mul_neg,Int.neg_mul]
set_option maxHeartbeats 1000000 in
theorem exact_any (m n:Bool) (va vb:Value) (a b:List Nat) (w:World) (ha:Sl w va a) (hb:Sl w vb b) (hra:R m a) (hrb:R n b) (hb0:0 < b.length) :
  Calls Tryz.prog 111 #[.agg #[.bool m,va],.agg #[.bool n,vb]] w fun e w' => Kept w w'∧((M.val b ∣ M.val a∧ExaIs w.heap.size w' e m n a b) ∨ (¬ M.val b ∣ M.val a∧e = .returned (.tuple #[.agg #[.bool false,.slice none 0 0],.int .i64 12]))):=by
 have HR:Hid (R m a∧R n b):=⟨hra,hrb⟩
 have HA:Hid (Sl w va a∧Sl w vb b):=⟨ha,hb⟩
 have HP:Hid (0 < M.val b):=M.val_pos hrb.tr (fun e => by rw [e] at hb0; simp at hb0)
 obtain ⟨P,hP⟩:∃ P:World→Ending→Prop,P = fun w' e => ((M.val b ∣ M.val a∧ExaIs w.heap.size w' e m n a b) ∨ (¬ M.val b ∣ M.val a∧e = .returned (.tuple #[.agg #[.bool false,.slice none 0 0],.int .i64 12]))):=⟨_,rfl⟩
 have HPP:Hid (∀ w' e,P w' e = ((M.val b ∣ M.val a∧ExaIs w.heap.size w' e m n a b) ∨ (¬ M.val b ∣ M.val a∧e = .returned (.tuple #[.agg #[.bool false,.slice none 0 0],.int .i64 12])))):=fun w' e => by rw [hP]
 suffices hs:Calls Tryz.prog 111 #[.agg #[.bool m,va],.agg #[.bool n,vb]] w fun e w' => Kept w w'∧P w' e by
  refine hs.mono ?_
  rintro e w' ⟨h1,h2⟩
  exact ⟨h1,by rw [← HPP.out]; exact h2⟩
 clear hra hrb ha hb hP
 have K3:∀ x y t,Kept w (((w.alloc x).alloc y).alloc t):=fun x y t => (((Kept.refl w).alloc x).alloc y).alloc t
 go_enter Tryz.func111,Tryz.ntmps111
 go_wp2_with fail
 refine (quoRem_any m n va vb a b _ (HA.out.1.kept (K3 _ _ _)) (HA.out.2.kept (K3 _ _ _)) HR.out.1 HR.out.2 hb0).mono ?_
 rintro e w1 ⟨hk,s,aq,nq,cq,q,t,ar,nr,cr,r,rfl,hnq,hnr,hrq,hrr,hval,hlt,hiq,hir⟩
 have e1:=hnr.len
 obtain ⟨hA0,hA1,hB0,hB1,hR0,hR1⟩:=box_kept3 hk
 have hsz:=hk.size
 simp at hsz
 have hsz1:w.heap.size + 1 + 1 < w1.heap.size:=by omega
 have hsz2:w.heap.size + 1 + 1 < w1.heap.size + 1:=by omega
 have hf:∀ o,w1.frozen? ⟨w.heap.size + 1 + 1,o,none⟩ = false:=fun o => by rw [hk.frozens (w.heap.size + 1 + 1) o (by simp)]; exact World.frozen?_alloc_at _ _ _ _ (by simp)
 have HF:Hid (Kept w w1∧New (w.heap.size + 1 + 1 + 1) w1 (.slice aq nq cq) q∧M.Right s q∧M.val a = M.val q * M.val b + M.val r∧M.val r < M.val b∧M.int s q = M.int (m != n) q∧M.Tr r∧nr = r.length) :=
  ⟨(K3 _ _ _).trans hk,hnq.mono (by simp),hrq,hval,hlt,hiq,hrr.tr,e1⟩
 have hnr72:nr≤72:=by rw [e1]; exact hrr.len
 clear hk hnq hnr hrq hrr hval hlt hiq hir e1
 by_cases h0:nr = 0
 ·
  have HV:Hid (M.val b ∣ M.val a∧M.val a = M.val q * M.val b):=by
   have hr0:r = []:=List.length_eq_zero_iff.1 (by have:=HF.out.2.2.2.2.2.2.2; omega)
   have h9:=HF.out.2.2.2.1
   rw [hr0] at h9
   simp only [M.val,Nat.add_zero] at h9
   exact ⟨⟨M.val q,by rw [h9,Nat.mul_comm]⟩,h9⟩
  subst h0
  go_wp2
  refine bodyPost_ret (v:=.tuple #[.agg #[.bool s,.slice aq nq cq],.int .i64 0]) (by simp [results,Tryz.results111,go_sem,hR0,hR1,hsz1,hsz2]) rfl ⟨?_,?_⟩
  ·
   exact (((HF.out.1.setCell (by show w.heap.size≤w.heap.size + 1 + 1; omega) _).setCell (by show w.heap.size≤w.heap.size + 1 + 1; omega) _).alloc _).alloc _
  ·
   rw [HPP.out]
   refine .inl ⟨HV.out.1,s,aq,nq,cq,q,rfl,?_,HF.out.2.2.1,by rw [HF.out.2.2.2.2.2.1]; exact exa_int HV.out.2⟩
   exact (((HF.out.2.1.other (by show w.heap.size + 1 + 1 < w.heap.size + 1 + 1 + 1; omega) _).other (by show w.heap.size + 1 + 1 < w.heap.size + 1 + 1 + 1; omega) _).kept (((Kept.refl _).alloc _).alloc _)).mono (by omega)
 ·
  have HV:Hid (¬ M.val b ∣ M.val a):=by
   intro hd
   have h9:=HF.out
   have hr0:M.val r ≠ 0:=fun e => h0 (by rw [h9.2.2.2.2.2.2.2,(M.val_zero h9.2.2.2.2.2.2.1).1 e]; rfl)
   have h8:=Nat.mod_eq_zero_of_dvd hd
   rw [h9.2.2.2.1,Nat.mul_comm,Nat.mul_add_mod,Nat.mod_eq_of_lt h9.2.2.2.2.1] at h8
   exact hr0 h8
  have h1:(0:Int) < (nr:Int):=by omega
  go_wp2
  refine bodyPost_ret (v:=.tuple #[.agg #[.bool false,.slice none 0 0],.int .i64 12]) (by simp [results,Tryz.results111,go_sem,hR0,hR1,hsz1,hsz2]) rfl ⟨?_,?_⟩
  ·
   exact (((HF.out.1.setCell (by show w.heap.size≤w.heap.size + 1 + 1; omega) _).setCell (by show w.heap.size≤w.heap.size + 1 + 1; omega) _).alloc _).alloc _
  ·
   rw [HPP.out]
   exact .inr ⟨HV.out,rfl⟩
end Go.Proofs.YtgofinhnlcbafaaGreat

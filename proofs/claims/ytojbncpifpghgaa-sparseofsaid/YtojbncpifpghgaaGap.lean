/- Whole numbers, cells and rows of a system, in memory; what is right about them. system.rightCells, rightRow, Check. system.rightRow, Check. shuntref01.Right, Sign; shuntref12.cellsRight, Check. sparse.Of, shuntref13.Of. shuntref13.Of. -/
import Derived.Test.YtojbncpifpghgaaGao
import Derived.Test.YtojbncpifpghgaaGak
import Derived.Test.YtojbncpifpghgaaGam
namespace Go.Proofs.Ytojbncpifpghgaa
open Go.RowKit
namespace Sy
open Sp (hid)
theorem alloc_sz (w:World) (o:Obj):(w.alloc o).heap.size = w.heap.size + 1:=by simp
structure ZE where
 neg:Bool
 ao:Option Addr
 cap:Nat
 lim:List Nat
def ZE.v (z:ZE):Value:=.slice z.ao z.lim.length z.cap
def ZE.cells (z:ZE):List Value:=[.bool z.neg,z.v]
def ZE.ok (w:World) (z:ZE):Prop:=Sl w z.v z.lim∧z.lim.length≤9223372036854775807
theorem ZE.ok.kept {w w':World} {z:ZE} (h:z.ok w) (k:Kept w w'):z.ok w':=⟨h.1.kept k,h.2⟩
def ZE.right (z:ZE):Bool:=decide (z.lim.length≤72) && (if z.lim.length = 0 then !z.neg else decide (z.lim.getD (z.lim.length - 1) 0 ≠ 0))
def ZE.nought (z:ZE):Bool:=decide (z.lim.length = 0)
theorem right_R {z:ZE}:z.right = true ↔ R z.neg z.lim:=by
 unfold ZE.right R
 rw [Bool.and_eq_true,decide_eq_true_eq]
 by_cases h:z.lim.length = 0
 ·
  rw [if_pos h]
  constructor
  ·
   rintro ⟨h1,h2⟩
   exact ⟨h1,fun _ => by simpa using h2,fun h0 => by omega⟩
  ·
   rintro ⟨h1,h2,_⟩
   exact ⟨h1,by simpa using h2 h⟩
 ·
  rw [if_neg h,decide_eq_true_eq]
  constructor
  ·
   rintro ⟨h1,h2⟩
   exact ⟨h1,fun h0 => absurd h0 h,fun _ => h2⟩
  ·
   rintro ⟨h1,_,h3⟩
   exact ⟨h1,h3 (by omega)⟩
structure CE where
 col:Int
 val:ZE
def CE.cells (c:CE):List Value:=.int .i64 c.col :: c.val.cells
def CE.ok (w:World) (c:CE):Prop:=c.val.ok w
def LR {α:Type} (sz:Nat) (cells:α→List Value) (ok:World→α→Prop) (w:World) (ao:Option Addr) (L:List α):Prop :=
 0 < L.length→∃ b off:Nat,ao = some ⟨b,off,none⟩∧b < w.heap.size∧∀ i (h:i < L.length),(∀ j u,(cells L[i])[j]? = some u→w.cell? ⟨b,off + i * sz + j,none⟩ = some u)∧ok w L[i]
theorem LR.kept {α:Type} {sz:Nat} {cells:α→List Value} {ok:World→α→Prop} {w w':World} {ao:Option Addr} {L:List α} (h:LR sz cells ok w ao L) (k:Kept w w') (ho:∀ a,ok w a→ok w' a):LR sz cells ok w' ao L:=by
 intro h0
 obtain ⟨b,off,rfl,hlt,hx⟩:=h h0
 refine ⟨b,off,rfl,Nat.lt_of_lt_of_le hlt k.size,fun i hi => ⟨fun j u hu => ?_,ho _ (hx i hi).2⟩⟩
 rw [Below.cell k (p:=⟨b,off + i * sz + j,none⟩) hlt]
 exact (hx i hi).1 j u hu
theorem LR.at {α:Type} {sz:Nat} {cells:α→List Value} {ok:World→α→Prop} {w:World} {ao:Option Addr} {L:List α} (h:LR sz cells ok w ao L) {i:Nat} (hi:i < L.length):∃ b off:Nat,ao = some ⟨b,off,none⟩∧b < w.heap.size∧(∀ j u,(cells L[i])[j]? = some u→∀ V,Kept w V→V.cell? ⟨b,off + i * sz + j,none⟩ = some u)∧ok w L[i]:=by
 obtain ⟨b,off,rfl,hlt,hx⟩:=h (by omega)
 exact ⟨b,off,rfl,hlt,fun j u hu V K => by rw [Below.cell K (p:=⟨b,off + i * sz + j,none⟩) hlt]; exact (hx i hi).1 j u hu,(hx i hi).2⟩
abbrev CsR:=LR 3 CE.cells CE.ok
theorem csr_kept {w w':World} {ao:Option Addr} {L:List CE} (h:CsR w ao L) (k:Kept w w'):CsR w' ao L:=LR.kept h k (fun _ ho => ZE.ok.kept ho k)
structure LE where
 ao:Option Addr
 cap:Nat
 cs:List CE
def LE.v (l:LE):Value:=.slice l.ao l.cs.length l.cap
structure RE where
 mult:ZE
 A:LE
 H:LE
 S:LE
 K:ZE
def RE.cells (r:RE):List Value:=r.mult.cells ++ [r.A.v,r.H.v,r.S.v] ++ r.K.cells
def RE.ok (w:World) (r:RE):Prop:=r.mult.ok w∧CsR w r.A.ao r.A.cs∧CsR w r.H.ao r.H.cs∧CsR w r.S.ao r.S.cs∧r.K.ok w
theorem RE.ok.kept {w w':World} {r:RE} (h:r.ok w) (k:Kept w w'):r.ok w':=⟨h.1.kept k,csr_kept h.2.1 k,csr_kept h.2.2.1 k,csr_kept h.2.2.2.1 k,h.2.2.2.2.kept k⟩
abbrev RsR:=LR 7 RE.cells RE.ok
theorem rsr_kept {w w':World} {ao:Option Addr} {L:List RE} (h:RsR w ao L) (k:Kept w w'):RsR w' ao L:=LR.kept h k (fun _ ho => RE.ok.kept ho k)
def cOk (n:Nat):Int→List CE→Bool
 | _,[] => true
 | last,c :: t => ((decide (last < c.col) && decide (c.col < (n:Int))) && (c.val.right && !c.val.nought)) && cOk n c.col t
def rOk (n:Nat) (r:RE):Bool:=((((((r.mult.right && !r.mult.neg) && !r.mult.nought) && r.K.right) && cOk n (-1) r.A.cs) && cOk n (-1) r.H.cs) && cOk 64 (-1) r.S.cs)
def sOk (rs:List RE):Bool:=decide (rs.length≤48) && rs.all (rOk rs.length)
def chkY (rs:List RE):Int:=if sOk rs = true then 0 else 130
theorem cOk_at {n:Nat} {L:List CE} {k:Nat} (hk:k < L.length) (last:Int):cOk n last (L.drop k) = (((decide (last < L[k].col) && decide (L[k].col < (n:Int))) && (L[k].val.right && !L[k].val.nought)) && cOk n L[k].col (L.drop (k + 1))):=by
 rw [List.drop_eq_getElem_cons hk]
 rfl
theorem allR_at {rs:List RE} {f:RE→Bool} {i:Nat} (hi:i < rs.length):(rs.drop i).all f = (f rs[i] && (rs.drop (i + 1)).all f):=by
 rw [List.drop_eq_getElem_cons hi,List.all_cons]
def colsOf (L:List CE):List Int:=L.map CE.col
theorem cOk_cols {n:Nat}:∀ {L:List CE} {last:Int},cOk n last L = true→Sp.rowOk n last (colsOf L) = true:=by
 intro L
 induction L with
 | nil => intro last _; rfl
 | cons c t ih =>
  intro last h
  unfold cOk at h
  simp only [Bool.and_eq_true] at h
  show ((decide (last < c.col) && decide (c.col < (n:Int))) && Sp.rowOk n c.col (colsOf t)) = true
  rw [h.1.1.1,h.1.1.2,ih h.2]
  rfl
def patOf (rs:List RE):List (List Int):=rs.map fun r => colsOf r.A.cs
theorem sOk_pat {rs:List RE} (h:sOk rs = true):Sp.okP (patOf rs) = true:=by
 unfold sOk at h
 rw [Bool.and_eq_true,List.all_eq_true] at h
 unfold Sp.okP patOf
 rw [List.length_map,h.1,Bool.true_and,List.all_eq_true]
 intro l hl
 obtain ⟨r,hr,rfl⟩:=List.mem_map.1 hl
 have:=h.2 r hr
 unfold rOk at this
 simp only [Bool.and_eq_true] at this
 exact cOk_cols this.1.1.2
set_option maxRecDepth 100000 in
set_option maxHeartbeats 4000000 in
theorem isNought_any (z:ZE) (w:World) (hl:z.lim.length≤9223372036854775807) :
  Calls Try.prog 33 #[.agg #[.bool z.neg,z.v]] w fun e w' => Kept w w'∧e = .returned (.bool z.nought):=by
 obtain ⟨m,ao,cap,l⟩:=z
 show Calls Try.prog 33 #[.agg #[.bool m,.slice ao l.length cap]] w fun e w' => Kept w w'∧e = .returned (.bool (decide (l.length = 0)))
 have hl:l.length≤9223372036854775807:=hl
 generalize l.length = n at hl ⊢
 obtain ⟨b,hb⟩:∃ b,b = decide (n = 0):=⟨_,rfl⟩
 rw [← hb]
 have HB:=hid (show ((n:Int) == 0) = b by rw [hb]; by_cases h:n = 0 <;> simp [h])
 clear hb
 have HK:=hid ((Kept.refl w).alloc (.cells #[.bool m,.slice ao n cap] 28))
 go_enter Try.func33,Try.ntmps33
 go_wp2_with fail
 go_ret
 exact ⟨HK.out,by rw [← HB.out]; rfl⟩
theorem one_R:R false [1]:=⟨by decide,fun _ => rfl,fun _ => by decide⟩
theorem refused_one {m:Bool} {l:List Nat} {c:Int} (h:F.Refused 1 (fun _ => m) (fun _ => false) (fun _ => l) (fun _ => [1]) c):c = 0 ↔ R m l:=by
 have hv:M.val [1] = 1:=by decide
 rcases h with ⟨rfl,i,_,h⟩ | ⟨h,⟨rfl,i,_,h2⟩ | ⟨rfl,_⟩⟩
 ·
  constructor
  ·
   intro e; cases e
  ·
   intro hr; exact absurd ⟨hr,one_R⟩ h
 ·
  exfalso
  refine h2 ⟨show 0 < M.int false [1] by decide,?_⟩
  rw [hv]
  exact Nat.gcd_one_right _
 ·
  exact ⟨fun _ => (h 0 (by omega)).1,fun _ => rfl⟩
theorem sl_one (w:World):Sl (w.alloc (.cells #[.int .u32 1] 76)) (.slice (some ⟨w.heap.size,0,none⟩) 1 1) [1]:=by
 have r:=V.RowL.alloc 76 w [.int .u32 1]
 refine ⟨fun x hx => by rw [List.mem_singleton.1 hx]; decide,_,1,rfl,fun _ => ⟨Nat.le_refl _,w.heap.size,0,rfl,r.lt,fun j hj => ?_⟩⟩
 match j,hj with
 | 0,_ => exact r.cell 0 _
set_option maxRecDepth 100000 in
set_option maxHeartbeats 4000000 in
theorem isWhole_any (z:ZE) (w:World) (hz:z.ok w) :
  Calls Try.prog 32 #[.agg #[.bool z.neg,z.v]] w fun e w' => Kept w w'∧e = .returned (.bool z.right):=by
 obtain ⟨x,hx⟩:∃ x,x = z.right:=⟨_,rfl⟩
 rw [← hx]
 have HX0:=hid (show x = true ↔ R z.neg z.lim by rw [hx]; exact right_R)
 clear hx
 obtain ⟨m,ao,cap,l⟩:=z
 have HZ:=hid (show Sl w (.slice ao l.length cap) l∧l.length≤9223372036854775807 from hz)
 have HX:=hid (show x = true ↔ R m l from HX0.out)
 clear HX0
 show Calls Try.prog 32 #[.agg #[.bool m,.slice ao l.length cap]] w fun e w' => Kept w w'∧e = .returned (.bool x)
 clear hz
 have HLL:=hid HZ.out.2
 obtain ⟨n,hn⟩:∃ n,n = l.length:=⟨_,rfl⟩
 rw [← hn] at HZ ⊢
 clear hn
 have k1:=(Kept.refl w).alloc (.cells #[.bool m,.slice ao n cap] 28)
 have s1:=alloc_sz w (.cells #[.bool m,.slice ao n cap] 28)
 have HK:=hid (And.intro k1 s1)
 clear k1 s1
 go_enter Try.func32,Try.ntmps32
 go_wp2_with fail
 have s2:=sl_one (w.alloc (.cells #[.bool m,.slice ao n cap] 28))
 rw [HK.out.2] at s2
 have k2:=HK.out.1.alloc (.cells #[.int .u32 1] 76)
 generalize (w.alloc (.cells #[.bool m,.slice ao n cap] 28)).alloc (.cells #[.int .u32 1] 76) = W at s2 k2 ⊢
 have HS:=hid (And.intro k2 s2)
 clear s2 k2 HK
 refine (F.Check_any m false ao (some ⟨w.heap.size + 1,0,none⟩) n cap 1 1 l [1] _ (HZ.out.1.kept HS.out.1) HS.out.2 HLL.out (by decide)).mono ?_
 rintro e w1 ⟨hk,c,rfl,hc⟩
 have HK:=hid (HS.out.1.trans hk)
 have HC:=hid (refused_one hc)
 clear hk hc HS
 cases x with
 | false =>
  have h0:(c == 0) = false:=by
   simp only [beq_eq_false_iff_ne,ne_eq]
   intro e
   have:=HX.out.2 (HC.out.1 e)
   cases this
  go_wp2_with fail
  go_ret
  exact ⟨HK.out,rfl⟩
 | true =>
  have h0:(c == 0) = true:=by rw [HC.out.2 (HX.out.1 rfl)]; rfl
  go_wp2_with fail
  go_ret
  exact ⟨HK.out,rfl⟩
end Sy
end Go.Proofs.Ytojbncpifpghgaa

namespace Go.Proofs.Ytojbncpifpghgaa
open Go.RowKit
open V (RowL RowL.alloc RowL.lt RowL.cell RowL.fz RowL.kept RowL.block RowL.set RowL.far)
namespace Sy
open Sp (hid)
theorem csr_at {w:World} {ao:Option Addr} {L:List CE} (h:CsR w ao L) {k:Nat} (hk:k < L.length):∃ (b off:Nat) (y:Int) (m:Bool) (zo:Option Addr) (zc:Nat) (zl:List Nat),ao = some ⟨b,off,none⟩∧L[k] = ⟨y,⟨m,zo,zc,zl⟩⟩∧(∀ V,Kept w V→V.cell? ⟨b,off + k * 3,none⟩ = some (.int .i64 y)∧V.cell? ⟨b,off + k * 3 + 1,none⟩ = some (.bool m)∧V.cell? ⟨b,off + k * 3 + 2,none⟩ = some (.slice zo zl.length zc))∧ZE.ok w ⟨m,zo,zc,zl⟩:=by
 obtain ⟨b,off,rfl,hb,hc,hok⟩:=LR.at h hk
 generalize L[k] = ce at hc hok ⊢
 obtain ⟨y,⟨m,zo,zc,zl⟩⟩:=ce
 exact ⟨b,off,y,m,zo,zc,zl,rfl,rfl,fun V K => ⟨hc 0 _ rfl V K,hc 1 _ rfl V K,hc 2 _ rfl V K⟩,hok⟩
set_option maxRecDepth 100000 in
set_option maxHeartbeats 8000000 in
theorem rightCells_any (ao:Option Addr) (rl cap n:Nat) (L:List CE) (w:World) (h:CsR w ao L) (hl:rl = L.length) (hrl:rl≤1000000) (hn:n≤1000000) :
  Calls Try.prog 34 #[.slice ao rl cap,.int .i64 (n:Int)] w fun e w' => Kept w w'∧e = .returned (.bool (cOk n (-1) L)):=by
 have HL:=hid (And.intro h hl)
 obtain ⟨z,hz⟩:∃ z,z = cOk n (-1) L:=⟨_,rfl⟩
 have HZ:=hid (show z = cOk n (0 - 1) (L.drop 0) from hz)
 rw [← hz]
 clear h hl hz
 go_enter Try.func34,Try.ntmps34
 go_wp2_with fail
 go_loopw [5,10] (fun v5 v10 wr => ∃ (k:Nat) (x:Int),k≤rl∧0≤x∧x≤(n:Int)∧v5 = .int .i64 x∧v10 = .int .i64 (k:Int)∧Hid (Kept w wr∧z = cOk n (x - 1) (L.drop k))) (fun _ v10 _ => rl - (intOf v10).toNat)
 case atStart => exact ⟨0,0,Nat.zero_le _,Int.le_refl _,Int.natCast_nonneg _,rfl,rfl,Kept.refl _,HZ.out⟩
 case round =>
  clear HZ
  obtain ⟨k,x,hkl,hx0,hxn,rfl,rfl,H⟩:=hrel
  generalize wr = w1 at H ⊢
  by_cases hkt:k < rl
  ·
   have hkk:(k:Int) < (rl:Int):=by omega
   have hk0:(0:Int)≤(k:Int):=by omega
   have hkL:k < L.length:=by have:=HL.out.2; omega
   obtain ⟨b,off,y,m,zo,zc,zl,rfl,hce,hc,hok⟩:=csr_at HL.out.1 hkL
   have HZE:=hid hok
   obtain ⟨c0,c1,c2⟩:=hc _ H.out.1
   obtain ⟨xr,hxr⟩:∃ x,x = ZE.right ⟨m,zo,zc,zl⟩:=⟨_,rfl⟩
   obtain ⟨xn,hxn2⟩:∃ x,x = ZE.nought ⟨m,zo,zc,zl⟩:=⟨_,rfl⟩
   have HN:=hid (show z = (((decide (x - 1 < y) && decide (y < (n:Int))) && (xr && !xn)) && cOk n y (L.drop (k + 1))) by rw [H.out.2,cOk_at hkL,hce,hxr,hxn2])
   have HX:=hid (And.intro hxr hxn2)
   have HK:=hid H.out.1
   have hzl:zl.length≤9223372036854775807:=hok.2
   obtain ⟨nl,hnl⟩:∃ q,q = zl.length:=⟨_,rfl⟩
   rw [← hnl] at c2 hzl
   have HNL:=hid hnl
   have kA:=HK.out.alloc (.cells #[.int .i64 y,.bool m,.slice zo nl zc] 53)
   have rA:=RowL.alloc 53 w1 [.int .i64 y,.bool m,.slice zo nl zc]
   clear hc hok hce H hxr hxn2 hnl
   go_upto_region 5 with fail
   generalize w1.alloc (.cells #[.int .i64 y,.bool m,.slice zo nl zc] 53) = W at kA rA ⊢
   obtain ⟨q,hq⟩:∃ q,q = w1.heap.size:=⟨_,rfl⟩
   rw [← hq] at rA ⊢
   have HW:=hid (And.intro kA rA)
   have d0:=rA.cell 0 _
   have d1:=rA.cell 1 _
   have d2:=rA.cell 2 _
   clear kA rA hq c0 c1 c2 HK
   --%B
   by_cases e1:y < x
   ·
    have HE:=hid (show z = false by rw [HN.out,decide_eq_false (show ¬ x - 1 < y by omega)]; rfl)
    go_wp2_with fail
    go_ret
    exact ⟨HW.out.1,by rw [HE.out]; rfl⟩
   ·
    by_cases e2:(n:Int)≤y
    ·
     have HE:=hid (show z = false by rw [HN.out,decide_eq_false (show ¬ y < (n:Int) by omega),Bool.and_false]; rfl)
     go_wp2_with fail
     go_ret
     exact ⟨HW.out.1,by rw [HE.out]; rfl⟩
    ·
     have HN:=hid (show z = ((xr && !xn) && cOk n (y + 1 - 1) (L.drop (k + 1))) by rw [HN.out,decide_eq_true (show x - 1 < y by omega),decide_eq_true (show y < (n:Int) by omega),Bool.true_and,Bool.true_and,Int.add_sub_cancel])
     go_wp2_with fail
     --%C
     have h9:=isNought_any ⟨m,zo,zc,zl⟩ W HZE.out.2
     rw [← HX.out.2] at h9
     have h9:Calls Try.prog 33 #[.agg #[.bool m,.slice zo nl zc]] W fun e w' => Kept W w'∧e = .returned (.bool xn):=by rw [HNL.out]; exact h9
     refine h9.mono ?_
     clear h9
     rintro e w2 ⟨hk,rfl⟩
     have HW:=hid (And.intro (HW.out.1.trans hk) (HW.out.2.kept hk))
     clear d0 d1 d2 hk
     have d0:=HW.out.2.cell 0 _
     have d1:=HW.out.2.cell 1 _
     have d2:=HW.out.2.cell 2 _
     cases xn with
     | true =>
      have HE:=hid (show z = false by rw [HN.out]; simp)
      go_wp2_with fail
      go_ret
      exact ⟨HW.out.1,by rw [HE.out]; rfl⟩
     | false =>
      go_wp2_with fail
      --%D
      have h9:=isWhole_any ⟨m,zo,zc,zl⟩ w2 (HZE.out.kept HW.out.1)
      rw [← HX.out.1] at h9
      have h9:Calls Try.prog 32 #[.agg #[.bool m,.slice zo nl zc]] w2 fun e w' => Kept w2 w'∧e = .returned (.bool xr):=by rw [HNL.out]; exact h9
      refine h9.mono ?_
      clear h9
      rintro e w3 ⟨hk,rfl⟩
      have HW:=hid (And.intro (HW.out.1.trans hk) (HW.out.2.kept hk))
      clear d0 d1 d2 hk
      have d0:=HW.out.2.cell 0 _
      cases xr with
      | false =>
       have HE:=hid (show z = false by rw [HN.out]; rfl)
       go_wp2_with fail
       go_ret
       exact ⟨HW.out.1,by rw [HE.out]; rfl⟩
      | true =>
       have HE:=hid (show z = cOk n (y + 1 - 1) (L.drop (k + 1)) by rw [HN.out]; rfl)
       go_wp2_with fail
       go_roundw
       case rel => exact ⟨k + 1,y + 1,by omega,by omega,by omega,by go_num,by go_num,HW.out.1,HE.out⟩
       case measure => show rl - ((k:Int) + 1).toNat < rl - (k:Int).toNat; omega
  ·
   have hkk:¬ (k:Int) < (rl:Int):=by omega
   have HE:=hid (show z = true by rw [H.out.2,List.drop_eq_nil_of_le (by have:=HL.out.2; omega)]; rfl)
   go_wp2_with fail
   go_ret
   exact ⟨H.out.1,by rw [HE.out]; rfl⟩
end Sy
end Go.Proofs.Ytojbncpifpghgaa

namespace Go.Proofs.Ytojbncpifpghgaa
open Go.RowKit
open V (RowL RowL.alloc RowL.lt RowL.cell RowL.fz RowL.kept RowL.block RowL.set RowL.far)
namespace Sy
open Sp (hid)
def RE.sz (r:RE):Prop:=r.A.cs.length≤1000000∧r.H.cs.length≤1000000∧r.S.cs.length≤1000000
set_option maxRecDepth 100000 in
set_option maxHeartbeats 8000000 in
theorem rightRow_any (r:RE) (n:Nat) (w:World) (h:r.ok w) (hs:r.sz) (hn:n≤1000000) :
  Calls Try.prog 25 #[.agg r.cells.toArray,.int .i64 (n:Int)] w fun e w' => Kept w w'∧e = .returned (.bool (rOk n r)):=by
 obtain ⟨z,hz⟩:∃ z,z = rOk n r:=⟨_,rfl⟩
 rw [← hz]
 obtain ⟨⟨m1,o1,p1,l1⟩,⟨oA,pA,LA⟩,⟨oH,pH,LH⟩,⟨oS,pS,LS⟩,⟨m2,o2,p2,l2⟩⟩:=r
 obtain ⟨x1,hx1⟩:∃ x,x = ZE.right ⟨m1,o1,p1,l1⟩:=⟨_,rfl⟩
 obtain ⟨x2,hx2⟩:∃ x,x = ZE.nought ⟨m1,o1,p1,l1⟩:=⟨_,rfl⟩
 obtain ⟨x3,hx3⟩:∃ x,x = ZE.right ⟨m2,o2,p2,l2⟩:=⟨_,rfl⟩
 obtain ⟨x4,hx4⟩:∃ x,x = cOk n (-1) LA:=⟨_,rfl⟩
 obtain ⟨x5,hx5⟩:∃ x,x = cOk n (-1) LH:=⟨_,rfl⟩
 obtain ⟨x6,hx6⟩:∃ x,x = cOk 64 (-1) LS:=⟨_,rfl⟩
 have HN:=hid (show z = ((((((x1 && !m1) && !x2) && x3) && x4) && x5) && x6) by rw [hz,hx1,hx2,hx3,hx4,hx5,hx6]; rfl)
 have HX:=hid (And.intro hx1 (And.intro hx2 (And.intro hx3 (And.intro hx4 (And.intro hx5 hx6)))))
 have HO:=hid (show ZE.ok w ⟨m1,o1,p1,l1⟩∧CsR w oA LA∧CsR w oH LH∧CsR w oS LS∧ZE.ok w ⟨m2,o2,p2,l2⟩ from h)
 have HS:=hid (show LA.length≤1000000∧LH.length≤1000000∧LS.length≤1000000 from hs)
 show Calls Try.prog 25 #[.agg #[.bool m1,.slice o1 l1.length p1,.slice oA LA.length pA,.slice oH LH.length pH,.slice oS LS.length pS,.bool m2,.slice o2 l2.length p2],.int .i64 (n:Int)] w fun e w' => Kept w w'∧e = .returned (.bool z)
 clear h hs hz hx1 hx2 hx3 hx4 hx5 hx6
 obtain ⟨n1,hn1⟩:∃ q,q = l1.length:=⟨_,rfl⟩
 obtain ⟨n2,hn2⟩:∃ q,q = l2.length:=⟨_,rfl⟩
 obtain ⟨nA,hnA⟩:∃ q,q = LA.length:=⟨_,rfl⟩
 obtain ⟨nH,hnH⟩:∃ q,q = LH.length:=⟨_,rfl⟩
 obtain ⟨nS,hnS⟩:∃ q,q = LS.length:=⟨_,rfl⟩
 rw [← hn1,← hn2,← hnA,← hnH,← hnS]
 have HL:=hid (And.intro hn1 (And.intro hn2 (And.intro hnA (And.intro hnH hnS))))
 have hbA:nA≤1000000:=by have:=HS.out.1; omega
 have hbH:nH≤1000000:=by have:=HS.out.2.1; omega
 have hbS:nS≤1000000:=by have:=HS.out.2.2; omega
 clear hn1 hn2 hnA hnH hnS
 have kA:=(Kept.refl w).alloc (.cells #[.bool m1,.slice o1 n1 p1,.slice oA nA pA,.slice oH nH pH,.slice oS nS pS,.bool m2,.slice o2 n2 p2] 31)
 have rA:=RowL.alloc 31 w [.bool m1,.slice o1 n1 p1,.slice oA nA pA,.slice oH nH pH,.slice oS nS pS,.bool m2,.slice o2 n2 p2]
 go_enter Try.func25,Try.ntmps25
 go_upto_region 1 with fail
 generalize w.alloc (.cells #[.bool m1,.slice o1 n1 p1,.slice oA nA pA,.slice oH nH pH,.slice oS nS pS,.bool m2,.slice o2 n2 p2] 31) = W at kA rA ⊢
 obtain ⟨q,hq⟩:∃ q,q = w.heap.size:=⟨_,rfl⟩
 rw [← hq] at rA ⊢
 have HW:=hid (And.intro kA rA)
 clear kA rA hq
 have d0:=HW.out.2.cell 0 _
 have d1:=HW.out.2.cell 1 _
 have d2:=HW.out.2.cell 2 _
 have d3:=HW.out.2.cell 3 _
 have d4:=HW.out.2.cell 4 _
 have d5:=HW.out.2.cell 5 _
 have d6:=HW.out.2.cell 6 _
 go_wp2_with fail
 --%A
 have h9:=isWhole_any ⟨m1,o1,p1,l1⟩ W (HO.out.1.kept HW.out.1)
 rw [← HX.out.1] at h9
 have h9:Calls Try.prog 32 #[.agg #[.bool m1,.slice o1 n1 p1]] W fun e w' => Kept W w'∧e = .returned (.bool x1):=by rw [HL.out.1]; exact h9
 refine h9.mono ?_
 clear h9
 rintro e w1 ⟨hk,rfl⟩
 have HW:=hid (And.intro (HW.out.1.trans hk) (HW.out.2.kept hk))
 clear d0 d1 d2 d3 d4 d5 d6 hk
 have d0:=HW.out.2.cell 0 _
 have d1:=HW.out.2.cell 1 _
 have d2:=HW.out.2.cell 2 _
 have d3:=HW.out.2.cell 3 _
 have d4:=HW.out.2.cell 4 _
 have d5:=HW.out.2.cell 5 _
 have d6:=HW.out.2.cell 6 _
 cases x1 with
 | false =>
  have HE:=hid (show z = false by rw [HN.out]; simp)
  go_wp2_with fail
  go_ret
  exact ⟨HW.out.1,by rw [HE.out]; rfl⟩
 | true =>
  cases m1 with
  | true =>
   have HE:=hid (show z = false by rw [HN.out]; simp)
   go_wp2_with fail
   go_ret
   exact ⟨HW.out.1,by rw [HE.out]; rfl⟩
  | false =>
   go_wp2_with fail
   --%C
   have h9:=isNought_any ⟨false,o1,p1,l1⟩ w1 HO.out.1.2
   rw [← HX.out.2.1] at h9
   have h9:Calls Try.prog 33 #[.agg #[.bool false,.slice o1 n1 p1]] w1 fun e w' => Kept w1 w'∧e = .returned (.bool x2):=by rw [HL.out.1]; exact h9
   refine h9.mono ?_
   clear h9
   rintro e w2 ⟨hk,rfl⟩
   have HW:=hid (And.intro (HW.out.1.trans hk) (HW.out.2.kept hk))
   clear d0 d1 d2 d3 d4 d5 d6 hk
   have d0:=HW.out.2.cell 0 _
   have d1:=HW.out.2.cell 1 _
   have d2:=HW.out.2.cell 2 _
   have d3:=HW.out.2.cell 3 _
   have d4:=HW.out.2.cell 4 _
   have d5:=HW.out.2.cell 5 _
   have d6:=HW.out.2.cell 6 _
   cases x2 with
   | true =>
    have HE:=hid (show z = false by rw [HN.out]; simp)
    go_wp2_with fail
    go_ret
    exact ⟨HW.out.1,by rw [HE.out]; rfl⟩
   | false =>
    go_wp2_with fail
    --%D
    have h9:=isWhole_any ⟨m2,o2,p2,l2⟩ w2 (HO.out.2.2.2.2.kept HW.out.1)
    rw [← HX.out.2.2.1] at h9
    have h9:Calls Try.prog 32 #[.agg #[.bool m2,.slice o2 n2 p2]] w2 fun e w' => Kept w2 w'∧e = .returned (.bool x3):=by rw [HL.out.2.1]; exact h9
    refine h9.mono ?_
    clear h9
    rintro e w3 ⟨hk,rfl⟩
    have HW:=hid (And.intro (HW.out.1.trans hk) (HW.out.2.kept hk))
    clear d0 d1 d2 d3 d4 d5 d6 hk
    have d0:=HW.out.2.cell 0 _
    have d1:=HW.out.2.cell 1 _
    have d2:=HW.out.2.cell 2 _
    have d3:=HW.out.2.cell 3 _
    have d4:=HW.out.2.cell 4 _
    have d5:=HW.out.2.cell 5 _
    have d6:=HW.out.2.cell 6 _
    cases x3 with
    | false =>
     have HE:=hid (show z = false by rw [HN.out]; simp)
     go_wp2_with fail
     go_ret
     exact ⟨HW.out.1,by rw [HE.out]; rfl⟩
    | true =>
     go_wp2_with fail
     --%E
     have h9:=rightCells_any oA nA pA n LA w3 (csr_kept HO.out.2.1 HW.out.1) HL.out.2.2.1 hbA hn
     rw [← HX.out.2.2.2.1] at h9
     refine h9.mono ?_
     clear h9
     rintro e w4 ⟨hk,rfl⟩
     have HW:=hid (And.intro (HW.out.1.trans hk) (HW.out.2.kept hk))
     clear d0 d1 d2 d3 d4 d5 d6 hk
     have d0:=HW.out.2.cell 0 _
     have d1:=HW.out.2.cell 1 _
     have d2:=HW.out.2.cell 2 _
     have d3:=HW.out.2.cell 3 _
     have d4:=HW.out.2.cell 4 _
     have d5:=HW.out.2.cell 5 _
     have d6:=HW.out.2.cell 6 _
     cases x4 with
     | false =>
      have HE:=hid (show z = false by rw [HN.out]; simp)
      go_wp2_with fail
      go_ret
      exact ⟨HW.out.1,by rw [HE.out]; rfl⟩
     | true =>
      go_wp2_with fail
      --%F
      have h9:=rightCells_any oH nH pH n LH w4 (csr_kept HO.out.2.2.1 HW.out.1) HL.out.2.2.2.1 hbH hn
      rw [← HX.out.2.2.2.2.1] at h9
      refine h9.mono ?_
      clear h9
      rintro e w5 ⟨hk,rfl⟩
      have HW:=hid (And.intro (HW.out.1.trans hk) (HW.out.2.kept hk))
      clear d0 d1 d2 d3 d4 d5 d6 hk
      have d0:=HW.out.2.cell 0 _
      have d1:=HW.out.2.cell 1 _
      have d2:=HW.out.2.cell 2 _
      have d3:=HW.out.2.cell 3 _
      have d4:=HW.out.2.cell 4 _
      have d5:=HW.out.2.cell 5 _
      have d6:=HW.out.2.cell 6 _
      cases x5 with
      | false =>
       have HE:=hid (show z = false by rw [HN.out]; simp)
       go_wp2_with fail
       go_ret
       exact ⟨HW.out.1,by rw [HE.out]; rfl⟩
      | true =>
       go_wp2_with fail
       --%G
       have h9:=rightCells_any oS nS pS 64 LS w5 (csr_kept HO.out.2.2.2.1 HW.out.1) HL.out.2.2.2.2 hbS (by omega)
       rw [← HX.out.2.2.2.2.2] at h9
       refine h9.mono ?_
       clear h9
       rintro e w6 ⟨hk,rfl⟩
       have HW:=hid (And.intro (HW.out.1.trans hk) (HW.out.2.kept hk))
       clear d0 d1 d2 d3 d4 d5 d6 hk
       have d0:=HW.out.2.cell 0 _
       have d1:=HW.out.2.cell 1 _
       have d2:=HW.out.2.cell 2 _
       have d3:=HW.out.2.cell 3 _
       have d4:=HW.out.2.cell 4 _
       have d5:=HW.out.2.cell 5 _
       have d6:=HW.out.2.cell 6 _
       have HE:=hid (show z = x6 by rw [HN.out]; rfl)
       go_wp2_with fail
       go_ret
       exact ⟨HW.out.1,by rw [HE.out]; rfl⟩
theorem rsr_at {w:World} {ao:Option Addr} {L:List RE} (h:RsR w ao L) {k:Nat} (hk:k < L.length):∃ (b off:Nat) (m1:Bool) (o1:Option Addr) (n1 p1:Nat) (oA:Option Addr) (nA pA:Nat) (oH:Option Addr) (nH pH:Nat) (oS:Option Addr) (nS pS:Nat) (m2:Bool) (o2:Option Addr) (n2 p2:Nat),ao = some ⟨b,off,none⟩∧L[k].cells = [.bool m1,.slice o1 n1 p1,.slice oA nA pA,.slice oH nH pH,.slice oS nS pS,.bool m2,.slice o2 n2 p2]∧(oA = L[k].A.ao∧nA = L[k].A.cs.length∧nH = L[k].H.cs.length∧nS = L[k].S.cs.length)∧(∀ V,Kept w V→V.cell? ⟨b,off + k * 7,none⟩ = some (.bool m1)∧V.cell? ⟨b,off + k * 7 + 1,none⟩ = some (.slice o1 n1 p1)∧V.cell? ⟨b,off + k * 7 + 2,none⟩ = some (.slice oA nA pA)∧V.cell? ⟨b,off + k * 7 + 3,none⟩ = some (.slice oH nH pH)∧V.cell? ⟨b,off + k * 7 + 4,none⟩ = some (.slice oS nS pS)∧V.cell? ⟨b,off + k * 7 + 5,none⟩ = some (.bool m2)∧V.cell? ⟨b,off + k * 7 + 6,none⟩ = some (.slice o2 n2 p2))∧L[k].ok w:=by
 obtain ⟨b,off,rfl,hb,hc,hok⟩:=LR.at h hk
 generalize L[k] = r at hc hok ⊢
 obtain ⟨⟨m1,o1,p1,l1⟩,⟨oA,pA,LA⟩,⟨oH,pH,LH⟩,⟨oS,pS,LS⟩,⟨m2,o2,p2,l2⟩⟩:=r
 exact ⟨b,off,m1,o1,l1.length,p1,oA,LA.length,pA,oH,LH.length,pH,oS,LS.length,pS,m2,o2,l2.length,p2,rfl,rfl,⟨rfl,rfl,rfl,rfl⟩,fun V K => ⟨hc 0 _ rfl V K,hc 1 _ rfl V K,hc 2 _ rfl V K,hc 3 _ rfl V K,hc 4 _ rfl V K,hc 5 _ rfl V K,hc 6 _ rfl V K⟩,hok⟩
set_option maxRecDepth 100000 in
set_option maxHeartbeats 8000000 in
theorem ycheck_any (ao:Option Addr) (n cap:Nat) (rs:List RE) (w:World) (h:RsR w ao rs) (hl:n = rs.length) (hn:n≤1000000) (hs:∀ r ∈ rs,r.sz) :
  Calls Try.prog 15 #[.agg #[.slice ao n cap]] w fun e w' => Kept w w'∧e = .returned (.int .i64 (chkY rs)):=by
 have HL:=hid (And.intro h (And.intro hl hs))
 obtain ⟨z,hz⟩:∃ z,z = chkY rs:=⟨_,rfl⟩
 have HZ:=hid (show z = if (decide (n≤48) && rs.all (rOk n)) = true then 0 else 130 by rw [hz,hl]; rfl)
 rw [← hz]
 clear h hl hs hz
 have kA:=(Kept.refl w).alloc (.cells #[.slice ao n cap] 24)
 have rA:=RowL.alloc 24 w [.slice ao n cap]
 go_enter Try.func15,Try.ntmps15
 go_upto_region 1 with fail
 generalize w.alloc (.cells #[.slice ao n cap] 24) = W at kA rA ⊢
 obtain ⟨q,hq⟩:∃ q,q = w.heap.size:=⟨_,rfl⟩
 rw [← hq] at rA ⊢
 have HW:=hid (And.intro kA rA)
 have d0:=rA.cell 0 _
 clear kA rA hq
 by_cases h48:48 < n
 ·
  have h1:(48:Int) < (n:Int):=by omega
  have HE:=hid (show z = 130 by rw [HZ.out,decide_eq_false (by omega)]; rfl)
  go_wp2_with fail
  go_ret
  exact ⟨HW.out.1,by rw [HE.out]; rfl⟩
 ·
  have h1:¬ (48:Int) < (n:Int):=by omega
  have HZ:=hid (show z = if (rs.drop 0).all (rOk n) = true then 0 else 130 by rw [HZ.out,decide_eq_true (by omega),Bool.true_and]; rfl)
  go_wp2_with fail
  --%A
  go_loopw [12] (fun v12 wr => ∃ (i:Nat),i≤n∧v12 = .int .i64 (i:Int)∧Hid (Kept w wr∧RowL 24 wr q [.slice ao n cap]∧z = if (rs.drop i).all (rOk n) = true then 0 else 130)) (fun v12 _ => n - (intOf v12).toNat)
  case atStart => exact ⟨0,Nat.zero_le _,rfl,HW.out.1,HW.out.2,HZ.out⟩
  case round =>
   clear HZ HW d0
   obtain ⟨i,hil,rfl,H⟩:=hrel
   generalize wr = w1 at H ⊢
   by_cases hit:i < n
   ·
    have hii:(i:Int) < (n:Int):=by omega
    have hi0:(0:Int)≤(i:Int):=by omega
    have hiL:i < rs.length:=by have:=HL.out.2.1; omega
    obtain ⟨b,off,m1,o1,n1,p1,oA,nA,pA,oH,nH,pH,oS,nS,pS,m2,o2,n2,p2,rfl,hce,hEQ,hc,hok⟩:=rsr_at HL.out.1 hiL
    clear hEQ
    obtain ⟨c0,c1,c2,c3,c4,c5,c6⟩:=hc _ H.out.1
    have H:=hid (And.intro H.out.1 (And.intro H.out.2.1 (show z = if (rOk n rs[i] && (rs.drop (i + 1)).all (rOk n)) = true then 0 else 130 by rw [← allR_at hiL]; exact H.out.2.2)))
    have HOK:=hid (And.intro hok (And.intro (HL.out.2.2 rs[i] (List.getElem_mem hiL)) hce))
    generalize rs[i] = r at H HOK
    have kA:=(Kept.refl w1).alloc (.cells #[.bool m1,.slice o1 n1 p1,.slice oA nA pA,.slice oH nH pH,.slice oS nS pS,.bool m2,.slice o2 n2 p2] 31)
    have rA:=RowL.alloc 31 w1 [.bool m1,.slice o1 n1 p1,.slice oA nA pA,.slice oH nH pH,.slice oS nS pS,.bool m2,.slice o2 n2 p2]
    clear hc hok hce
    go_upto_region 6 with fail
    --%B
    generalize w1.alloc (.cells #[.bool m1,.slice o1 n1 p1,.slice oA nA pA,.slice oH nH pH,.slice oS nS pS,.bool m2,.slice o2 n2 p2] 31) = W at kA rA ⊢
    obtain ⟨g,hg⟩:∃ q,q = w1.heap.size:=⟨_,rfl⟩
    rw [← hg] at rA ⊢
    have HW:=hid (And.intro (H.out.1.trans kA) (And.intro (H.out.2.1.kept kA) H.out.2.2))
    have d0:=rA.cell 0 _
    have d1:=rA.cell 1 _
    have d2:=rA.cell 2 _
    have d3:=rA.cell 3 _
    have d4:=rA.cell 4 _
    have d5:=rA.cell 5 _
    have d6:=rA.cell 6 _
    have s0:=HW.out.2.1.cell 0 _
    clear kA rA hg c0 c1 c2 c3 c4 c5 c6 H
    go_wp2_with fail
    --%C
    have h9:=rightRow_any r n W (HOK.out.1.kept HW.out.1) HOK.out.2.1 hn
    rw [HOK.out.2.2] at h9
    refine h9.mono ?_
    clear h9
    rintro e w2 ⟨hk,rfl⟩
    have HW:=hid (And.intro (HW.out.1.trans hk) (And.intro (HW.out.2.1.kept hk) HW.out.2.2))
    clear d0 d1 d2 d3 d4 d5 d6 s0 hk
    cases hro:rOk n r with
    | false =>
     have HE:=hid (show z = 130 by rw [HW.out.2.2,hro]; rfl)
     clear hro
     go_wp2_with fail
     go_ret
     exact ⟨HW.out.1,by rw [HE.out]; rfl⟩
    | true =>
     have HE:=hid (show z = if (rs.drop (i + 1)).all (rOk n) = true then 0 else 130 by rw [HW.out.2.2,hro,Bool.true_and])
     clear hro
     go_wp2_with fail
     go_roundw
     case rel => exact ⟨i + 1,by omega,by go_num,HW.out.1,HW.out.2.1,HE.out⟩
     case measure => show n - ((i:Int) + 1).toNat < n - (i:Int).toNat; omega
   ·
    have hii:¬ (i:Int) < (n:Int):=by omega
    have HE:=hid (show z = 0 by rw [H.out.2.2,List.drop_eq_nil_of_le (by have:=HL.out.2.1; omega)]; rfl)
    go_wp2_with fail
    go_ret
    exact ⟨H.out.1,by rw [HE.out]; rfl⟩
end Sy
end Go.Proofs.Ytojbncpifpghgaa

namespace Go.Proofs.Ytojbncpifpghgaa
open Go.RowKit
open V (RowL RowL.alloc RowL.lt RowL.cell RowL.fz RowL.kept RowL.block RowL.set RowL.far)
namespace Sy
open Sp (hid)
theorem rright_any (z:ZE) (w:World) (hz:z.ok w) :
  Calls Try.prog 26 #[.agg #[.bool z.neg,z.v]] w fun e w' => Kept w w'∧e = .returned (.bool z.right):=by
 cases h:z.right with
 | true => exact (right_yes z.neg z.v z.lim w hz.1 (right_R.1 h)).mono fun e w' ⟨h1,h2⟩ => ⟨h2,h1⟩
 | false => exact (right_no z.neg z.v z.lim w hz.1 hz.2 (fun hr => by rw [right_R.2 hr] at h; cases h)).mono fun e w' ⟨h1,h2⟩ => ⟨h2,h1⟩
theorem bnot_t {b:Bool} (h:(!b) = true):b = false:=by cases b with | false => rfl | true => cases h
theorem bnot_f {b:Bool} (h:(!b) = false):b = true:=by cases b with | true => rfl | false => cases h
def sgnT (s:Bool) (k:Nat):Int:=if k = 0 then 0 else if s = true then -1 else 1
theorem sgn_pos {z:ZE} {w:World} {s:Bool} {ao:Option Addr} {k cap:Nat} (hr:z.right = true) (h:D.NIs w s (.slice ao k cap) (M.int z.neg z.lim)):decide (sgnT s k≤0) = !(!z.neg && !z.nought):=by
 obtain ⟨l',h1,h2,h3⟩:=h
 have hk:k = l'.length:=by obtain ⟨_,_,_,e,_⟩:=h1; simp at e; exact e.2.1
 have hR:=right_R.1 hr
 have hv:=M.val_zero hR.tr
 have hv':=D.val_zero h2.tr
 unfold ZE.nought sgnT
 rw [hk]
 unfold D.int M.int at h3
 by_cases h0:z.lim = []
 ·
  have hn:z.neg = false:=hR.2.1 (by rw [h0]; rfl)
  rw [h0,hn] at h3
  have e:l' = []:=hv'.1 (by cases s <;> simp [M.val] at h3 <;> omega)
  rw [e,h0,hn]
  rfl
 ·
  have h4:M.val z.lim ≠ 0:=fun e => h0 (hv.1 e)
  have e:l' ≠ []:=by
   intro e
   rw [e] at h3
   cases s <;> cases z.neg <;> simp [D.val] at h3 <;> omega
  have e1:¬ l'.length = 0:=fun e' => e (List.length_eq_zero_iff.1 e')
  have e2:¬ z.lim.length = 0:=fun e' => h0 (List.length_eq_zero_iff.1 e')
  rw [if_neg e1,decide_eq_false e2]
  cases hs:s <;> cases hn:z.neg <;> rw [hs,hn] at h3 <;> simp at h3 ⊢ <;> omega
set_option maxRecDepth 100000 in
set_option maxHeartbeats 4000000 in
theorem rsign_any (s:Bool) (ao:Option Addr) (k cap:Nat) (w:World) (hk:k≤1000000) :
  Calls Try.prog 27 #[.agg #[.bool s,.slice ao k cap]] w fun e w' => Kept w w'∧e = .returned (.int .i64 (sgnT s k)):=by
 obtain ⟨z,hz⟩:∃ z,z = sgnT s k:=⟨_,rfl⟩
 rw [← hz]
 have HZ:=hid (show z = if k = 0 then 0 else if s = true then -1 else 1 from hz)
 clear hz
 have HK:=hid ((Kept.refl w).alloc (.cells #[.bool s,.slice ao k cap] 70))
 go_enter Try.func27,Try.ntmps27
 by_cases h0:k = 0
 ·
  subst h0
  have HE:=hid (show z = 0 by rw [HZ.out,if_pos rfl])
  go_wp2_with fail
  go_ret
  exact ⟨HK.out,by rw [HE.out]; rfl⟩
 ·
  have h1:((k:Int) == 0) = false:=by simp; omega
  cases s with
  | true =>
   have HE:=hid (show z = -1 by rw [HZ.out,if_neg h0]; rfl)
   clear h0
   go_wp2_with fail
   go_ret
   exact ⟨HK.out,by rw [HE.out]; rfl⟩
  | false =>
   have HE:=hid (show z = 1 by rw [HZ.out,if_neg h0]; rfl)
   clear h0
   go_wp2_with fail
   go_ret
   exact ⟨HK.out,by rw [HE.out]; rfl⟩
set_option maxRecDepth 100000 in
set_option maxHeartbeats 8000000 in
theorem cellsRight_any (ao:Option Addr) (rl cap n:Nat) (L:List CE) (w:World) (h:CsR w ao L) (hl:rl = L.length) (hrl:rl≤1000000) :
  Calls Try.prog 29 #[.slice ao rl cap,.int .i64 (n:Int)] w fun e w' => Kept w w'∧e = .returned (.bool (cOk n (-1) L)):=by
 have HL:=hid (And.intro h hl)
 obtain ⟨z,hz⟩:∃ z,z = cOk n (-1) L:=⟨_,rfl⟩
 have HZ:=hid (show z = cOk n (-1) (L.drop 0) from hz)
 rw [← hz]
 clear h hl hz
 go_enter Try.func29,Try.ntmps29
 go_wp2_with fail
 go_loopw [5,6] (fun v5 v6 wr => ∃ (k:Nat) (x:Int),k≤rl∧v5 = .int .i64 x∧v6 = .int .i64 (k:Int)∧Hid (Kept w wr∧z = cOk n x (L.drop k))) (fun _ v6 _ => rl - (intOf v6).toNat)
 case atStart => exact ⟨0,-1,Nat.zero_le _,rfl,rfl,Kept.refl _,HZ.out⟩
 case round =>
  clear HZ
  obtain ⟨k,x,hkl,rfl,rfl,H⟩:=hrel
  generalize wr = w1 at H ⊢
  by_cases hkt:k < rl
  ·
   have hkk:(k:Int) < (rl:Int):=by omega
   have hk0:(0:Int)≤(k:Int):=by omega
   have hkL:k < L.length:=by have:=HL.out.2; omega
   obtain ⟨b,off,y,m,zo,zc,zl,rfl,hce,hc,hok⟩:=csr_at HL.out.1 hkL
   have HZE:=hid hok
   have HC:=hid hc
   obtain ⟨c0,c1,c2⟩:=hc _ H.out.1
   obtain ⟨xr,hxr⟩:∃ x,x = ZE.right ⟨m,zo,zc,zl⟩:=⟨_,rfl⟩
   obtain ⟨xn,hxn2⟩:∃ x,x = ZE.nought ⟨m,zo,zc,zl⟩:=⟨_,rfl⟩
   have HN:=hid (show z = (((decide (x < y) && decide (y < (n:Int))) && (xr && !xn)) && cOk n y (L.drop (k + 1))) by rw [H.out.2,cOk_at hkL,hce,hxr,hxn2])
   have HX:=hid hxr
   have HK:=hid H.out.1
   have hzl:zl.length≤9223372036854775807:=hok.2
   have hx9:xn = decide (zl.length = 0):=hxn2
   obtain ⟨nl,hnl⟩:∃ q,q = zl.length:=⟨_,rfl⟩
   rw [← hnl] at c2 hzl hx9
   have HNL:=hid hnl
   have hnz:((nl:Int) == 0) = xn:=by rw [hx9]; by_cases h:nl = 0 <;> simp [h]
   clear hc hok hce H hxr hxn2 hnl hx9
   --%B
   by_cases e1:y≤x
   ·
    have HE:=hid (show z = false by rw [HN.out,decide_eq_false (show ¬ x < y by omega)]; rfl)
    go_wp2_with fail
    go_ret
    exact ⟨HK.out,by rw [HE.out]; rfl⟩
   ·
    by_cases e2:(n:Int)≤y
    ·
     have HE:=hid (show z = false by rw [HN.out,decide_eq_false (show ¬ y < (n:Int) by omega),Bool.and_false]; rfl)
     go_wp2_with fail
     go_ret
     exact ⟨HK.out,by rw [HE.out]; rfl⟩
    ·
     have HN:=hid (show z = ((xr && !xn) && cOk n y (L.drop (k + 1))) by rw [HN.out,decide_eq_true (show x < y by omega),decide_eq_true (show y < (n:Int) by omega),Bool.true_and,Bool.true_and])
     go_wp2_with fail
     --%C
     have h9:=rright_any ⟨m,zo,zc,zl⟩ w1 (HZE.out.kept HK.out)
     rw [← HX.out] at h9
     have h9:Calls Try.prog 26 #[.agg #[.bool m,.slice zo nl zc]] w1 fun e w' => Kept w1 w'∧e = .returned (.bool xr):=by rw [HNL.out]; exact h9
     refine h9.mono ?_
     clear h9
     rintro e w2 ⟨hk,rfl⟩
     have HK:=hid (HK.out.trans hk)
     clear c0 c1 c2 hk
     obtain ⟨c0,c1,c2⟩:=HC.out _ HK.out
     rw [← HNL.out] at c2
     have c3:w2.cell? ⟨b,off + k * 3 + 1 + 1,none⟩ = some (.slice zo nl zc):=c2
     cases xr with
     | false =>
      have HE:=hid (show z = false by rw [HN.out]; rfl)
      go_wp2_with fail
      go_ret
      exact ⟨HK.out,by rw [HE.out]; rfl⟩
     | true =>
      by_cases h0:nl = 0
      ·
       have HE:=hid (show z = false by rw [HN.out,← hnz,h0]; rfl)
       subst h0
       clear hnz
       go_wp2_with fail
       go_ret
       exact ⟨HK.out,by rw [HE.out]; rfl⟩
      ·
       have h0':((nl:Int) == 0) = false:=by simp; omega
       have HE:=hid (show z = cOk n y (L.drop (k + 1)) by rw [HN.out,← hnz,h0']; rfl)
       clear hnz h0
       go_wp2_with fail
       go_roundw
       case rel => exact ⟨k + 1,y,by omega,rfl,by go_num,HK.out,HE.out⟩
       case measure => show rl - ((k:Int) + 1).toNat < rl - (k:Int).toNat; omega
  ·
   have hkk:¬ (k:Int) < (rl:Int):=by omega
   have HE:=hid (show z = true by rw [H.out.2,List.drop_eq_nil_of_le (by have:=HL.out.2; omega)]; rfl)
   go_wp2_with fail
   go_ret
   exact ⟨H.out.1,by rw [HE.out]; rfl⟩
set_option maxRecDepth 100000 in
set_option maxHeartbeats 16000000 in
theorem rycheck_any (ao:Option Addr) (n cap:Nat) (rs:List RE) (w:World) (h:RsR w ao rs) (hl:n = rs.length) (hn:n≤1000000) (hs:∀ r ∈ rs,r.sz) :
  Calls Try.prog 16 #[.agg #[.slice ao n cap]] w fun e w' => Kept w w'∧e = .returned (.int .i64 (chkY rs)):=by
 have HL:=hid (And.intro h (And.intro hl hs))
 obtain ⟨z,hz⟩:∃ z,z = chkY rs:=⟨_,rfl⟩
 have HZ:=hid (show z = if (decide (n≤48) && rs.all (rOk n)) = true then 0 else 130 by rw [hz,hl]; rfl)
 rw [← hz]
 clear h hl hs hz
 have kA:=(Kept.refl w).alloc (.cells #[.slice ao n cap] 24)
 have rA:=RowL.alloc 24 w [.slice ao n cap]
 go_enter Try.func16,Try.ntmps16
 go_upto_region 1 with fail
 generalize w.alloc (.cells #[.slice ao n cap] 24) = W at kA rA ⊢
 obtain ⟨q,hq⟩:∃ q,q = w.heap.size:=⟨_,rfl⟩
 rw [← hq] at rA ⊢
 have HW:=hid (And.intro kA rA)
 have d0:=rA.cell 0 _
 clear kA rA hq
 by_cases h48:48 < n
 ·
  have h1:(48:Int) < (n:Int):=by omega
  have HE:=hid (show z = 130 by rw [HZ.out,decide_eq_false (by omega)]; rfl)
  go_wp2_with fail
  go_ret
  exact ⟨HW.out.1,by rw [HE.out]; rfl⟩
 ·
  have h1:¬ (48:Int) < (n:Int):=by omega
  have HZ:=hid (show z = if (rs.drop 0).all (rOk n) = true then 0 else 130 by rw [HZ.out,decide_eq_true (by omega),Bool.true_and]; rfl)
  go_wp2_with fail
  --%A
  go_loopw [4] (fun v4 wr => ∃ (i:Nat),i≤n∧v4 = .int .i64 (i:Int)∧Hid (Kept w wr∧RowL 24 wr q [.slice ao n cap]∧z = if (rs.drop i).all (rOk n) = true then 0 else 130)) (fun v4 _ => n - (intOf v4).toNat)
  case atStart => exact ⟨0,Nat.zero_le _,rfl,HW.out.1,HW.out.2,HZ.out⟩
  case round =>
   clear HZ HW d0
   obtain ⟨i,hil,rfl,H⟩:=hrel
   generalize wr = w0 at H ⊢
   by_cases hit:i < n
   ·
    have hii:(i:Int) < (n:Int):=by omega
    have hi0:(0:Int)≤(i:Int):=by omega
    have hiL:i < rs.length:=by have:=HL.out.2.1; omega
    obtain ⟨b,off,rfl,_,hc,hok⟩:=LR.at HL.out.1 hiL
    have HSZ:=hid (HL.out.2.2 rs[i] (List.getElem_mem hiL))
    have H:=hid (And.intro H.out.1 (And.intro H.out.2.1 (show z = if (rOk n rs[i] && (rs.drop (i + 1)).all (rOk n)) = true then 0 else 130 by rw [← allR_at hiL]; exact H.out.2.2)))
    generalize rs[i] = r at H hc hok HSZ
    obtain ⟨⟨m1,o1,p1,l1⟩,⟨oA,pA,LA⟩,⟨oH,pH,LH⟩,⟨oS,pS,LS⟩,⟨m2,o2,p2,l2⟩⟩:=r
    obtain ⟨x1,hx1⟩:∃ x,x = ZE.right ⟨m1,o1,p1,l1⟩:=⟨_,rfl⟩
    obtain ⟨x2,hx2⟩:∃ x,x = ZE.nought ⟨m1,o1,p1,l1⟩:=⟨_,rfl⟩
    obtain ⟨x3,hx3⟩:∃ x,x = ZE.right ⟨m2,o2,p2,l2⟩:=⟨_,rfl⟩
    obtain ⟨x4,hx4⟩:∃ x,x = cOk n (-1) LA:=⟨_,rfl⟩
    obtain ⟨x5,hx5⟩:∃ x,x = cOk n (-1) LH:=⟨_,rfl⟩
    obtain ⟨x6,hx6⟩:∃ x,x = cOk 64 (-1) LS:=⟨_,rfl⟩
    obtain ⟨more,hmore⟩:∃ x,x = (rs.drop (i + 1)).all (rOk n):=⟨_,rfl⟩
    have HN:=hid (show z = if (((((((x1 && !m1) && !x2) && x3) && x4) && x5) && x6) && more) = true then 0 else 130 by rw [H.out.2.2,hx1,hx2,hx3,hx4,hx5,hx6,hmore]; rfl)
    have HX:=hid (And.intro hx1 (And.intro hx2 (And.intro hx3 (And.intro hx4 (And.intro hx5 (And.intro hx6 hmore))))))
    have HO:=hid (show ZE.ok w ⟨m1,o1,p1,l1⟩∧CsR w oA LA∧CsR w oH LH∧CsR w oS LS∧ZE.ok w ⟨m2,o2,p2,l2⟩ from hok)
    have HS:=hid (show LA.length≤1000000∧LH.length≤1000000∧LS.length≤1000000 from HSZ.out)
    have c0:w0.cell? ⟨b,off + i * 7,none⟩ = some (.bool m1):=hc 0 _ rfl _ H.out.1
    have c1:w0.cell? ⟨b,off + i * 7 + 1,none⟩ = some (.slice o1 l1.length p1):=hc 1 _ rfl _ H.out.1
    have c2:w0.cell? ⟨b,off + i * 7 + 2,none⟩ = some (.slice oA LA.length pA):=hc 2 _ rfl _ H.out.1
    have c3:w0.cell? ⟨b,off + i * 7 + 3,none⟩ = some (.slice oH LH.length pH):=hc 3 _ rfl _ H.out.1
    have c4:w0.cell? ⟨b,off + i * 7 + 4,none⟩ = some (.slice oS LS.length pS):=hc 4 _ rfl _ H.out.1
    have c5:w0.cell? ⟨b,off + i * 7 + 5,none⟩ = some (.bool m2):=hc 5 _ rfl _ H.out.1
    have c6:w0.cell? ⟨b,off + i * 7 + 6,none⟩ = some (.slice o2 l2.length p2):=hc 6 _ rfl _ H.out.1
    clear hok hx1 hx2 hx3 hx4 hx5 hx6 hmore HSZ hc
    obtain ⟨n1,hn1⟩:∃ q,q = l1.length:=⟨_,rfl⟩
    obtain ⟨n2,hn2⟩:∃ q,q = l2.length:=⟨_,rfl⟩
    obtain ⟨nA,hnA⟩:∃ q,q = LA.length:=⟨_,rfl⟩
    obtain ⟨nH,hnH⟩:∃ q,q = LH.length:=⟨_,rfl⟩
    obtain ⟨nS,hnS⟩:∃ q,q = LS.length:=⟨_,rfl⟩
    rw [← hn1] at c1
    rw [← hn2] at c6
    rw [← hnA] at c2
    rw [← hnH] at c3
    rw [← hnS] at c4
    have HL2:=hid (And.intro hn1 (And.intro hn2 (And.intro hnA (And.intro hnH hnS))))
    have hbA:nA≤1000000:=by have:=HS.out.1; omega
    have hbH:nH≤1000000:=by have:=HS.out.2.1; omega
    have hbS:nS≤1000000:=by have:=HS.out.2.2; omega
    have s0:=H.out.2.1.cell 0 _
    clear hn1 hn2 hnA hnH hnS
    have kA:=(Kept.refl w0).alloc (.cells #[.bool m1,.slice o1 n1 p1,.slice oA nA pA,.slice oH nH pH,.slice oS nS pS,.bool m2,.slice o2 n2 p2] 31)
    have rA:=RowL.alloc 31 w0 [.bool m1,.slice o1 n1 p1,.slice oA nA pA,.slice oH nH pH,.slice oS nS pS,.bool m2,.slice o2 n2 p2]
    go_upto_region 8 with fail
    generalize w0.alloc (.cells #[.bool m1,.slice o1 n1 p1,.slice oA nA pA,.slice oH nH pH,.slice oS nS pS,.bool m2,.slice o2 n2 p2] 31) = W at kA rA ⊢
    obtain ⟨g,hg⟩:∃ q,q = w0.heap.size:=⟨_,rfl⟩
    rw [← hg] at rA ⊢
    have HW:=hid (And.intro (H.out.1.trans kA) (And.intro rA (H.out.2.1.kept kA)))
    clear kA rA hg c0 c1 c2 c3 c4 c5 c6 s0 H
    have d0:=HW.out.2.1.cell 0 _
    have d1:=HW.out.2.1.cell 1 _
    have d2:=HW.out.2.1.cell 2 _
    have d3:=HW.out.2.1.cell 3 _
    have d4:=HW.out.2.1.cell 4 _
    have d5:=HW.out.2.1.cell 5 _
    have d6:=HW.out.2.1.cell 6 _
    go_wp2_with fail
    --%B
    have h9:=rright_any ⟨m1,o1,p1,l1⟩ W (HO.out.1.kept HW.out.1)
    rw [← HX.out.1] at h9
    have h9:Calls Try.prog 26 #[.agg #[.bool m1,.slice o1 n1 p1]] W fun e w' => Kept W w'∧e = .returned (.bool x1):=by rw [HL2.out.1]; exact h9
    refine h9.mono ?_
    clear h9
    rintro e w1 ⟨hk,rfl⟩
    have HW:=hid (And.intro (HW.out.1.trans hk) (And.intro (HW.out.2.1.kept hk) (HW.out.2.2.kept hk)))
    clear d0 d1 d2 d3 d4 d5 d6 hk
    have d0:=HW.out.2.1.cell 0 _
    have d1:=HW.out.2.1.cell 1 _
    have d2:=HW.out.2.1.cell 2 _
    have d3:=HW.out.2.1.cell 3 _
    have d4:=HW.out.2.1.cell 4 _
    have d5:=HW.out.2.1.cell 5 _
    have d6:=HW.out.2.1.cell 6 _
    cases x1 with
    | false =>
     have HE:=hid (show z = 130 by rw [HN.out]; simp)
     go_wp2_with fail
     go_ret
     exact ⟨HW.out.1,by rw [HE.out]; rfl⟩
    | true =>
     go_wp2_with fail
     --%C
     have hR1:R m1 l1:=(right_R (z:=⟨m1,o1,p1,l1⟩)).1 HX.out.1.symm
     have hS1:Sl w1 (.slice o1 n1 p1) l1:=by rw [HL2.out.1]; exact HO.out.1.1.kept HW.out.1
     refine (D.Take_any m1 o1 n1 p1 l1 w1 hS1 (by have:=hR1.1; omega)).mono ?_
     rintro e w2 ⟨hk,sg,ao',kk,cap',rfl,hNI,hkk⟩
     have hkb:kk≤1000000:=by have:=hR1.1; omega
     have HSG:=hid (show decide (sgnT sg kk≤0) = !(!m1 && !x2) by rw [HX.out.2.1]; exact sgn_pos (z:=⟨m1,o1,p1,l1⟩) HX.out.1.symm hNI)
     have HW:=hid (And.intro (HW.out.1.trans hk) (And.intro (HW.out.2.1.kept hk) (HW.out.2.2.kept hk)))
     clear hR1 hS1 hNI hkk
     clear d0 d1 d2 d3 d4 d5 d6 hk
     have d0:=HW.out.2.1.cell 0 _
     have d1:=HW.out.2.1.cell 1 _
     have d2:=HW.out.2.1.cell 2 _
     have d3:=HW.out.2.1.cell 3 _
     have d4:=HW.out.2.1.cell 4 _
     have d5:=HW.out.2.1.cell 5 _
     have d6:=HW.out.2.1.cell 6 _
     go_wp2_with fail
     refine (rsign_any sg ao' kk cap' _ hkb).mono ?_
     rintro e w3 ⟨hk,rfl⟩
     have HW:=hid (And.intro (HW.out.1.trans hk) (And.intro (HW.out.2.1.kept hk) (HW.out.2.2.kept hk)))
     clear d0 d1 d2 d3 d4 d5 d6 hk
     have d0:=HW.out.2.1.cell 0 _
     have d1:=HW.out.2.1.cell 1 _
     have d2:=HW.out.2.1.cell 2 _
     have d3:=HW.out.2.1.cell 3 _
     have d4:=HW.out.2.1.cell 4 _
     have d5:=HW.out.2.1.cell 5 _
     have d6:=HW.out.2.1.cell 6 _
     generalize sgnT sg kk = sv at HSG
     --%D
     by_cases hsv:sv≤0
     ·
      have HE:=hid (show z = 130 by
       have h1:(!(!m1 && !x2)) = true:=by rw [← HSG.out,decide_eq_true hsv]
       have h2:(!m1 && !x2) = false:=bnot_t h1
       rw [HN.out,show ((((((true && !m1) && !x2) && x3) && x4) && x5) && x6) = false by rw [Bool.true_and,h2]; simp]
       rfl)
      go_wp2_with fail
      go_ret
      exact ⟨HW.out.1,by rw [HE.out]; rfl⟩
     ·
      have HN:=hid (show z = if ((((x3 && x4) && x5) && x6) && more) = true then 0 else 130 by
       have h1:(!(!m1 && !x2)) = false:=by rw [← HSG.out,decide_eq_false hsv]
       have h2:(!m1 && !x2) = true:=bnot_f h1
       rw [HN.out,show ((true && !m1) && !x2) = true by rw [Bool.true_and,h2]]
       simp)
      go_wp2_with fail
      --%E
      have h9:=rright_any ⟨m2,o2,p2,l2⟩ w3 (HO.out.2.2.2.2.kept HW.out.1)
      rw [← HX.out.2.2.1] at h9
      have h9:Calls Try.prog 26 #[.agg #[.bool m2,.slice o2 n2 p2]] w3 fun e w' => Kept w3 w'∧e = .returned (.bool x3):=by rw [HL2.out.2.1]; exact h9
      refine h9.mono ?_
      clear h9
      rintro e w4 ⟨hk,rfl⟩
      have HW:=hid (And.intro (HW.out.1.trans hk) (And.intro (HW.out.2.1.kept hk) (HW.out.2.2.kept hk)))
      clear d0 d1 d2 d3 d4 d5 d6 hk
      have d0:=HW.out.2.1.cell 0 _
      have d1:=HW.out.2.1.cell 1 _
      have d2:=HW.out.2.1.cell 2 _
      have d3:=HW.out.2.1.cell 3 _
      have d4:=HW.out.2.1.cell 4 _
      have d5:=HW.out.2.1.cell 5 _
      have d6:=HW.out.2.1.cell 6 _
      cases x3 with
      | false =>
       have HE:=hid (show z = 130 by rw [HN.out]; simp)
       go_wp2_with fail
       go_ret
       exact ⟨HW.out.1,by rw [HE.out]; rfl⟩
      | true =>
       go_wp2_with fail
       --%F
       have h9:=cellsRight_any oA nA pA n LA w4 (csr_kept HO.out.2.1 HW.out.1) HL2.out.2.2.1 hbA
       rw [← HX.out.2.2.2.1] at h9
       refine h9.mono ?_
       clear h9
       rintro e w5 ⟨hk,rfl⟩
       have HW:=hid (And.intro (HW.out.1.trans hk) (And.intro (HW.out.2.1.kept hk) (HW.out.2.2.kept hk)))
       clear d0 d1 d2 d3 d4 d5 d6 hk
       have d0:=HW.out.2.1.cell 0 _
       have d1:=HW.out.2.1.cell 1 _
       have d2:=HW.out.2.1.cell 2 _
       have d3:=HW.out.2.1.cell 3 _
       have d4:=HW.out.2.1.cell 4 _
       have d5:=HW.out.2.1.cell 5 _
       have d6:=HW.out.2.1.cell 6 _
       cases x4 with
       | false =>
        have HE:=hid (show z = 130 by rw [HN.out]; simp)
        go_wp2_with fail
        go_ret
        exact ⟨HW.out.1,by rw [HE.out]; rfl⟩
       | true =>
        go_wp2_with fail
        --%G
        have h9:=cellsRight_any oH nH pH n LH w5 (csr_kept HO.out.2.2.1 HW.out.1) HL2.out.2.2.2.1 hbH
        rw [← HX.out.2.2.2.2.1] at h9
        refine h9.mono ?_
        clear h9
        rintro e w6 ⟨hk,rfl⟩
        have HW:=hid (And.intro (HW.out.1.trans hk) (And.intro (HW.out.2.1.kept hk) (HW.out.2.2.kept hk)))
        clear d0 d1 d2 d3 d4 d5 d6 hk
        have d0:=HW.out.2.1.cell 0 _
        have d1:=HW.out.2.1.cell 1 _
        have d2:=HW.out.2.1.cell 2 _
        have d3:=HW.out.2.1.cell 3 _
        have d4:=HW.out.2.1.cell 4 _
        have d5:=HW.out.2.1.cell 5 _
        have d6:=HW.out.2.1.cell 6 _
        cases x5 with
        | false =>
         have HE:=hid (show z = 130 by rw [HN.out]; simp)
         go_wp2_with fail
         go_ret
         exact ⟨HW.out.1,by rw [HE.out]; rfl⟩
        | true =>
         go_wp2_with fail
         --%H
         have h9:=cellsRight_any oS nS pS 64 LS w6 (csr_kept HO.out.2.2.2.1 HW.out.1) HL2.out.2.2.2.2 hbS
         rw [← HX.out.2.2.2.2.2.1] at h9
         refine h9.mono ?_
         clear h9
         rintro e w7 ⟨hk,rfl⟩
         have HW:=hid (And.intro (HW.out.1.trans hk) (And.intro (HW.out.2.1.kept hk) (HW.out.2.2.kept hk)))
         clear d0 d1 d2 d3 d4 d5 d6 hk
         have d0:=HW.out.2.1.cell 0 _
         have d1:=HW.out.2.1.cell 1 _
         have d2:=HW.out.2.1.cell 2 _
         have d3:=HW.out.2.1.cell 3 _
         have d4:=HW.out.2.1.cell 4 _
         have d5:=HW.out.2.1.cell 5 _
         have d6:=HW.out.2.1.cell 6 _
         cases x6 with
         | false =>
          have HE:=hid (show z = 130 by rw [HN.out]; simp)
          go_wp2_with fail
          go_ret
          exact ⟨HW.out.1,by rw [HE.out]; rfl⟩
         | true =>
          have HE:=hid (show z = if (rs.drop (i + 1)).all (rOk n) = true then 0 else 130 by rw [HN.out,← HX.out.2.2.2.2.2.2]; simp)
          go_wp2_with fail
          go_roundw
          case rel => exact ⟨i + 1,by omega,by go_num,HW.out.1,HW.out.2.2,HE.out⟩
          case measure => show n - ((i:Int) + 1).toNat < n - (i:Int).toNat; omega
   ·
    have hii:¬ (i:Int) < (n:Int):=by omega
    have HE:=hid (show z = 0 by rw [H.out.2.2,List.drop_eq_nil_of_le (by have:=HL.out.2.1; omega)]; rfl)
    go_wp2_with fail
    go_ret
    exact ⟨H.out.1,by rw [HE.out]; rfl⟩
end Sy
end Go.Proofs.Ytojbncpifpghgaa

namespace Go.Proofs.Ytojbncpifpghgaa
open Go.RowKit
open V (RowL RowL.alloc RowL.lt RowL.cell RowL.fz RowL.kept RowL.block RowL.set RowL.far)
namespace Sy
open Sp (hid OwnI PatU info_parts info_ints info_i64 und_ints und_intss cell_new own_shape own_keptK own_kept own_apart own_mono)
def ofS (rs:List RE):List (List Int) × Int:=if sOk rs = true then (patOf rs,0) else ([],130)
theorem cols_step {L:List CE} {k:Nat} (hk:k < L.length):colsOf (L.take (k + 1)) = colsOf (L.take k) ++ [L[k].col]:=by
 unfold colsOf
 rw [List.take_succ_eq_append_getElem hk,List.map_append]
 rfl
theorem pat_step {rs:List RE} {i:Nat} (hi:i < rs.length):patOf (rs.take (i + 1)) = patOf (rs.take i) ++ [colsOf rs[i].A.cs]:=by
 unfold patOf
 rw [List.take_succ_eq_append_getElem hi,List.map_append]
 rfl
theorem cols_len (L:List CE) (k:Nat):(colsOf (L.take k)).length≤k:=by
 unfold colsOf
 rw [List.length_map,List.length_take]
 omega
theorem pat_len {rs:List RE} {i:Nat} (hi:i≤rs.length):(patOf (rs.take i)).length = i:=by
 unfold patOf
 rw [List.length_map,List.length_take]
 omega
set_option maxRecDepth 100000 in
set_option maxHeartbeats 16000000 in
theorem of_any (ao:Option Addr) (n cap:Nat) (rs:List RE) (w:World) (h:RsR w ao rs) (hl:n = rs.length) (hn:n≤1000000) (hs:∀ r ∈ rs,r.sz) :
  Calls Try.prog 5 #[.agg #[.slice ao n cap]] w fun e w' => Kept w w'∧∃ v,e = .returned (.tuple #[v,.int .i64 (ofS rs).2])∧PatU w.heap.size w' v (ofS rs).1:=by
 have HL:=hid (And.intro h (And.intro hl hs))
 obtain ⟨i0,hi,hz0,hz1,hz2⟩:=info_parts info_ints
 obtain ⟨i1,hj,hy0,hy1,hy2⟩:=info_parts info_i64
 obtain ⟨x,hx⟩:∃ x,x = (ofS rs).1:=⟨_,rfl⟩
 obtain ⟨y,hy⟩:∃ y,y = (ofS rs).2:=⟨_,rfl⟩
 rw [← hx,← hy]
 have HZ:=hid (And.intro hx hy)
 clear h hl hs hx hy
 have kA:=(Kept.refl w).alloc (.cells #[.slice ao n cap] 24)
 have rA:=RowL.alloc 24 w [.slice ao n cap]
 go_enter Try.func5,Try.ntmps5
 go_upto_region 1 with fail
 generalize w.alloc (.cells #[.slice ao n cap] 24) = W at kA rA ⊢
 obtain ⟨q,hq⟩:∃ q,q = w.heap.size:=⟨_,rfl⟩
 rw [← hq] at rA ⊢
 have HW:=hid (And.intro kA rA)
 have d0:=rA.cell 0 _
 clear kA rA hq
 go_wp2_with fail
 refine (ycheck_any ao n cap rs _ (rsr_kept HL.out.1 HW.out.1) HL.out.2.1 hn HL.out.2.2).mono ?_
 rintro e w1 ⟨hk,rfl⟩
 have HW:=hid (And.intro (HW.out.1.trans hk) (HW.out.2.kept hk))
 clear hk d0
 have d0:=HW.out.2.cell 0 _
 cases hok:sOk rs with
 | false =>
  have hc:chkY rs = 130:=by unfold chkY; rw [if_neg (by rw [hok]; decide)]
  have HE:=hid (show x = []∧y = 130 by rw [HZ.out.1,HZ.out.2]; unfold ofS; rw [if_neg (by rw [hok]; decide)]; exact ⟨rfl,rfl⟩)
  rw [hc]
  clear hc hok
  go_wp2_with fail
  go_ret2
  exact ⟨HW.out.1,_,by rw [HE.out.2]; rfl,by rw [HE.out.1]; exact PatU.nil _ _⟩
 | true =>
  have hc:chkY rs = 0:=by unfold chkY; rw [if_pos hok]
  have HE:=hid (show x = patOf rs∧y = 0 by rw [HZ.out.1,HZ.out.2]; unfold ofS; rw [if_pos hok]; exact ⟨rfl,rfl⟩)
  rw [hc]
  clear hc hok HZ
  go_wp2_with fail
  --%A
  go_loopw [5,19] (fun v5 v19 wr => ∃ (i:Nat) (bv:Value),i≤n∧v5 = bv∧v19 = .int .i64 (i:Int)∧Hid (Kept w wr∧PatU w.heap.size wr bv (patOf (rs.take i)))) (fun _ v19 _ => n - (intOf v19).toNat)
  case atStart => exact ⟨0,_,Nat.zero_le _,rfl,rfl,HW.out.1,PatU.nil _ _⟩
  case round =>
   clear HW d0
   obtain ⟨i,bv,hil,rfl,rfl,H⟩:=hrel
   generalize wr = w2 at H ⊢
   by_cases hit:i < n
   ·
    have hii:(i:Int) < (n:Int):=by omega
    have hi0:(0:Int)≤(i:Int):=by omega
    have hiL:i < rs.length:=by have:=HL.out.2.1; omega
    obtain ⟨b,off,m1,o1,n1,p1,oA,nA,pA,oH,nH,pH,oS,nS,pS,m2,o2,n2,p2,rfl,_,hEQ,hc,hok⟩:=rsr_at HL.out.1 hiL
    obtain ⟨c0,c1,c2,c3,c4,c5,c6⟩:=hc _ H.out.1
    have HCS:=hid (show CsR w oA rs[i].A.cs∧nA = rs[i].A.cs.length by rw [hEQ.1]; exact ⟨hok.2.1,hEQ.2.1⟩)
    have hnA:nA≤1000000:=by rw [hEQ.2.1]; exact (HL.out.2.2 rs[i] (List.getElem_mem hiL)).1
    have HST:=hid (pat_step hiL)
    generalize rs[i].A.cs = L at HCS HST
    have kA:=(Kept.refl w2).alloc (.cells #[.bool m1,.slice o1 n1 p1,.slice oA nA pA,.slice oH nH pH,.slice oS nS pS,.bool m2,.slice o2 n2 p2] 31)
    have rA:=RowL.alloc 31 w2 [.bool m1,.slice o1 n1 p1,.slice oA nA pA,.slice oH nH pH,.slice oS nS pS,.bool m2,.slice o2 n2 p2]
    clear hc hok hEQ
    go_upto_region 8 with fail
    --%B
    generalize w2.alloc (.cells #[.bool m1,.slice o1 n1 p1,.slice oA nA pA,.slice oH nH pH,.slice oS nS pS,.bool m2,.slice o2 n2 p2] 31) = W2 at kA rA ⊢
    obtain ⟨g,hg⟩:∃ q,q = w2.heap.size:=⟨_,rfl⟩
    rw [← hg] at rA ⊢
    have H2:=hid (And.intro (H.out.1.trans kA) (H.out.2.kept kA))
    have d2:=rA.cell 2 _
    clear kA hg c0 c1 c2 c3 c4 c5 c6 H rA
    go_wp2_with fail
    --%C
    go_loopw [8,26] (fun v8 v26 wr => ∃ (k:Nat) (rv:Value),k≤nA∧v8 = rv∧v26 = .int .i64 (k:Int)∧Hid (Kept W2 wr∧OwnI W2.heap.size wr rv (colsOf (L.take k)))) (fun _ v26 _ => nA - (intOf v26).toNat)
    case atStart => exact ⟨0,_,Nat.zero_le _,rfl,rfl,Kept.refl _,World.ownsRow_nil _ _ _ _⟩
    case round =>
     clear d2
     obtain ⟨k,rv,hkl,rfl,rfl,K⟩:=hrel
     generalize wr = w3 at K ⊢
     by_cases hkt:k < nA
     ·
      have hkk:(k:Int) < (nA:Int):=by omega
      have hk0:(0:Int)≤(k:Int):=by omega
      have hkL:k < L.length:=by have:=HCS.out.2; omega
      obtain ⟨b2,off2,yc,m,zo,zc,zl,rfl,hce,hc,_⟩:=csr_at HCS.out.1 hkL
      obtain ⟨c0,c1,c2⟩:=hc _ (H2.out.1.trans K.out.1)
      have HS1:=hid (show colsOf (L.take (k + 1)) = colsOf (L.take k) ++ [yc] by rw [cols_step hkL,hce])
      have hll:=cols_len L k
      generalize colsOf (L.take k) = l at K HS1 hll
      generalize zl.length = nl at c2
      have kA:=(Kept.refl w3).alloc (.cells #[.int .i64 yc,.bool m,.slice zo nl zc] 53)
      have rA:=RowL.alloc 53 w3 [.int .i64 yc,.bool m,.slice zo nl zc]
      clear hc hce
      go_upto_region 12 with fail
      generalize w3.alloc (.cells #[.int .i64 yc,.bool m,.slice zo nl zc] 53) = W3 at kA rA ⊢
      obtain ⟨g3,hg3⟩:∃ q,q = w3.heap.size:=⟨_,rfl⟩
      rw [← hg3] at rA ⊢
      have K2:=hid (And.intro (K.out.1.trans kA) (show OwnI W2.heap.size W3 u8 l from own_keptK K.out.2 kA))
      have d0:=rA.cell 0 _
      clear kA hg3 c0 c1 c2 K rA
      have hsz:=K2.out.1.size
      --%D
      go_wp2_with (at_builtin; refine wpList_append_lies _ rfl (.tmp 30) (.tmp 33) 41 rfl W2.heap.size 3 i1 (.int .i64 0) 1 8 und_ints hj hy0 hy1 hy2 rfl (by decide) u8 l.length (l.map (Value.int .i64)) rfl (by exact World.ownsRow.alloc K2.out.2 _) ⟨W3.heap.size,0,none⟩ 1 1 [.int .i64 yc] rfl rfl (cell_new W3 _ _) (fun u hu => by simp at hu; subst hu; rfl) (by omega) (by unfold maxLen; omega) (by omega) (by simp; omega) _ rfl ?_)
      intro G cap5 w5 hO hgr _ _
      have kA:=(Kept.refl W3).alloc (.cells #[.int .i64 yc] 3)
      have hOw:=World.ownsRow.alloc K2.out.2 (.cells #[.int .i64 yc] 3)
      generalize W3.alloc (.cells #[.int .i64 yc] 3) = W5 at kA hgr hOw
      have KW:Kept W2 w5:=Below.grown (K2.out.1.trans kA) hgr (K2.out.1.trans kA).size (fun k hk => (World.ownsRow.lt hOw k hk).1)
      have HQ:=hid (And.intro KW (OwnI.snoc hO))
      clear kA hOw hgr hO KW d0
      go_wp2_with fail
      go_roundw
      case rel => exact ⟨k + 1,_,by omega,rfl,by go_num,HQ.out.1,by rw [HS1.out]; exact HQ.out.2⟩
      case measure => show nA - ((k:Int) + 1).toNat < nA - (k:Int).toNat; omega
     ·
      have hkk:¬ (k:Int) < (nA:Int):=by omega
      have hlk:L.take k = L:=List.take_of_length_le (by have:=HCS.out.2; omega)
      rw [hlk] at K
      clear hlk
      obtain ⟨ra,rcp,hrv⟩:=own_shape K.out.2
      have hrl:(colsOf L).length≤1000000:=by unfold colsOf; rw [List.length_map]; have:=HCS.out.2; omega
      have HPL:=hid (pat_len (rs:=rs) (i:=i) (by omega))
      generalize colsOf L = l at K HST hrv hrl
      generalize hp:patOf (rs.take i) = P at H2 HST HPL
      clear hp
      subst hrv
      obtain ⟨hs2,hgl,hown,hrows⟩:=H2.out.2.kept K.out.1
      have HWW:=hid (And.intro hgl (And.intro hown hrows))
      have hsz:w.heap.size≤w3.heap.size:=(H2.out.1.trans K.out.1).size
      have hpl:P.length = i:=HPL.out
      have HPL:=hid hpl
      have hPb:P.length≤1000000:=by omega
      clear hgl hown hrows hpl
      --%F
      go_wp2_with (at_builtin; refine wpList_append_lies _ rfl (.tmp 36) (.tmp 38) 32 rfl w.heap.size 41 i0 (.slice none 0 0) 1 24 und_intss hi hz0 hz1 hz2 rfl (by decide) u5 P.length hs2 rfl (by exact World.ownsRow.alloc HWW.out.2.1 _) ⟨w3.heap.size,0,none⟩ 1 1 [.slice ra l.length rcp] rfl rfl (cell_new w3 _ _) (fun u hu => by simp at hu; subst hu; rfl) (by omega) (by unfold maxLen; omega) (by omega) (by simp; omega) _ rfl ?_)
      intro G cap5 w5 hO hgr _ _
      have kA:=(Kept.refl w3).alloc (.cells #[.slice ra l.length rcp] 41)
      have hOw:=World.ownsRow.alloc HWW.out.2.1 (.cells #[.slice ra l.length rcp] 41)
      generalize w3.alloc (.cells #[.slice ra l.length rcp] 41) = W5 at kA hgr hOw
      have KW:Kept w w5:=Below.grown ((H2.out.1.trans K.out.1).trans kA) hgr ((H2.out.1.trans K.out.1).trans kA).size (fun k hk => (World.ownsRow.lt hOw k hk).1)
      have HB:=hid (fun (v:Value) (l:List Int) (hp:OwnI w.heap.size w3 v l) => (show OwnI w.heap.size w5 v l from own_kept (own_keptK hp kA) (fun b hb => hgr.block b (World.ownsRow.lt (own_keptK hp kA) b hb).2 (fun e => own_apart (own_keptK hp kA) hOw (by decide) b hb e.symm))))
      have HQ:=hid (And.intro KW (PatU.snoc (w:=w3) (w':=w5) HWW.out.1 hO HWW.out.2.2 HB.out (own_mono K.out.2 H2.out.1.size)))
      clear kA hOw hgr hO KW
      go_wp2_with fail
      go_roundw
      case rel => exact ⟨i + 1,_,by omega,rfl,by go_num,HQ.out.1,by rw [HST.out]; exact HQ.out.2⟩
      case measure => show n - ((i:Int) + 1).toNat < n - (i:Int).toNat; omega
   ·
    have hii:¬ (i:Int) < (n:Int):=by omega
    have hlk:rs.take i = rs:=List.take_of_length_le (by have:=HL.out.2.1; omega)
    have HF:=hid (show PatU w.heap.size w2 u5 x by have:=H.out.2; rw [hlk] at this; rw [HE.out.1]; exact this)
    clear hlk
    go_wp2_with fail
    go_ret2
    exact ⟨H.out.1,_,by rw [HE.out.2]; rfl,HF.out⟩
end Sy
end Go.Proofs.Ytojbncpifpghgaa

namespace Go.Proofs.Ytojbncpifpghgaa
open Go.RowKit
open V (RowL RowL.alloc RowL.lt RowL.cell RowL.fz RowL.kept RowL.block RowL.set RowL.far)
namespace Sy
open Sp (hid OwnI PatU info_parts info_ints info_i64 und_ints und_intss cell_new own_shape own_keptK own_kept own_apart own_mono)
set_option maxRecDepth 100000 in
set_option maxHeartbeats 16000000 in
theorem rof_any (ao:Option Addr) (n cap:Nat) (rs:List RE) (w:World) (h:RsR w ao rs) (hl:n = rs.length) (hn:n≤1000000) (hs:∀ r ∈ rs,r.sz) :
  Calls Try.prog 6 #[.agg #[.slice ao n cap]] w fun e w' => Kept w w'∧∃ v,e = .returned (.tuple #[v,.int .i64 (ofS rs).2])∧PatU w.heap.size w' v (ofS rs).1:=by
 have HL:=hid (And.intro h (And.intro hl hs))
 obtain ⟨i0,hi,hz0,hz1,hz2⟩:=info_parts info_ints
 obtain ⟨i1,hj,hy0,hy1,hy2⟩:=info_parts info_i64
 obtain ⟨x,hx⟩:∃ x,x = (ofS rs).1:=⟨_,rfl⟩
 obtain ⟨y,hy⟩:∃ y,y = (ofS rs).2:=⟨_,rfl⟩
 rw [← hx,← hy]
 have HZ:=hid (And.intro hx hy)
 clear h hl hs hx hy
 have kA:=(Kept.refl w).alloc (.cells #[.slice ao n cap] 24)
 have rA:=RowL.alloc 24 w [.slice ao n cap]
 go_enter Try.func6,Try.ntmps6
 go_upto_region 1 with fail
 generalize w.alloc (.cells #[.slice ao n cap] 24) = W at kA rA ⊢
 obtain ⟨q,hq⟩:∃ q,q = w.heap.size:=⟨_,rfl⟩
 rw [← hq] at rA ⊢
 have HW:=hid (And.intro kA rA)
 have d0:=rA.cell 0 _
 clear kA rA hq
 go_wp2_with fail
 refine (rycheck_any ao n cap rs _ (rsr_kept HL.out.1 HW.out.1) HL.out.2.1 hn HL.out.2.2).mono ?_
 rintro e w1 ⟨hk,rfl⟩
 have HW:=hid (And.intro (HW.out.1.trans hk) (HW.out.2.kept hk))
 clear hk d0
 cases hok:sOk rs with
 | false =>
  have hc:chkY rs = 130:=by unfold chkY; rw [if_neg (by rw [hok]; decide)]
  have HE:=hid (show x = []∧y = 130 by rw [HZ.out.1,HZ.out.2]; unfold ofS; rw [if_neg (by rw [hok]; decide)]; exact ⟨rfl,rfl⟩)
  rw [hc]
  clear hc hok
  go_wp2_with fail
  go_ret2
  exact ⟨HW.out.1,_,by rw [HE.out.2]; rfl,by rw [HE.out.1]; exact PatU.nil _ _⟩
 | true =>
  have hc:chkY rs = 0:=by unfold chkY; rw [if_pos hok]
  have HE:=hid (show x = patOf rs∧y = 0 by rw [HZ.out.1,HZ.out.2]; unfold ofS; rw [if_pos hok]; exact ⟨rfl,rfl⟩)
  rw [hc]
  clear hc hok HZ
  go_wp2_with fail
  --%A
  go_loopw [5,6] (fun v5 v6 wr => ∃ (i:Nat) (bv:Value),i≤n∧v5 = bv∧v6 = .int .i64 (i:Int)∧Hid (Kept w1 wr∧PatU w1.heap.size wr bv (patOf (rs.take i)))) (fun _ v6 _ => n - (intOf v6).toNat)
  case atStart => exact ⟨0,_,Nat.zero_le _,rfl,rfl,Kept.refl _,PatU.nil _ _⟩
  case round =>
   obtain ⟨i,bv,hil,rfl,rfl,H⟩:=hrel
   generalize wr = w2 at H ⊢
   have s0:=(HW.out.2.kept H.out.1).cell 0 _
   by_cases hit:i < n
   ·
    have hii:(i:Int) < (n:Int):=by omega
    have hi0:(0:Int)≤(i:Int):=by omega
    have hiL:i < rs.length:=by have:=HL.out.2.1; omega
    obtain ⟨b,off,m1,o1,n1,p1,oA,nA,pA,oH,nH,pH,oS,nS,pS,m2,o2,n2,p2,rfl,_,hEQ,hc,hok⟩:=rsr_at HL.out.1 hiL
    have HC:=hid hc
    have HCS:=hid (show CsR w oA rs[i].A.cs∧nA = rs[i].A.cs.length by rw [hEQ.1]; exact ⟨hok.2.1,hEQ.2.1⟩)
    have hnA:nA≤1000000:=by rw [hEQ.2.1]; exact (HL.out.2.2 rs[i] (List.getElem_mem hiL)).1
    have HST:=hid (pat_step hiL)
    generalize rs[i].A.cs = L at HCS HST
    clear hc hok hEQ
    have c2:=(HC.out _ (HW.out.1.trans H.out.1)).2.2.1
    go_wp2_with fail
    --%C
    go_loopw [7,8] (fun v7 v8 wr => ∃ (k:Nat) (rv:Value),k≤nA∧v7 = rv∧v8 = .int .i64 (k:Int)∧Hid (Kept w2 wr∧OwnI w2.heap.size wr rv (colsOf (L.take k)))) (fun _ v8 _ => nA - (intOf v8).toNat)
    case atStart => exact ⟨0,_,Nat.zero_le _,rfl,rfl,Kept.refl _,World.ownsRow_nil _ _ _ _⟩
    case round =>
     clear s0 c2
     obtain ⟨k,rv,hkl,rfl,rfl,K⟩:=hrel
     generalize wr = w3 at K ⊢
     have s0:=(HW.out.2.kept (H.out.1.trans K.out.1)).cell 0 _
     have a2:=(HC.out _ (HW.out.1.trans (H.out.1.trans K.out.1))).2.2.1
     by_cases hkt:k < nA
     ·
      have hkk:(k:Int) < (nA:Int):=by omega
      have hk0:(0:Int)≤(k:Int):=by omega
      have hkL:k < L.length:=by have:=HCS.out.2; omega
      obtain ⟨b2,off2,yc,m,zo,zc,zl,rfl,hce,hc,_⟩:=csr_at HCS.out.1 hkL
      obtain ⟨c0,_,_⟩:=hc _ (HW.out.1.trans (H.out.1.trans K.out.1))
      have HS1:=hid (show colsOf (L.take (k + 1)) = colsOf (L.take k) ++ [yc] by rw [cols_step hkL,hce])
      have hll:=cols_len L k
      generalize colsOf (L.take k) = l at K HS1 hll
      have hsz:=K.out.1.size
      clear hc hce
      --%D
      go_wp2_with (at_builtin; refine wpList_append_lies _ rfl (.tmp 32) (.tmp 43) 41 rfl w2.heap.size 3 i1 (.int .i64 0) 1 8 und_ints hj hy0 hy1 hy2 rfl (by decide) u7 l.length (l.map (Value.int .i64)) rfl (by exact World.ownsRow.alloc K.out.2 _) ⟨w3.heap.size,0,none⟩ 1 1 [.int .i64 yc] rfl rfl (cell_new w3 _ _) (fun u hu => by simp at hu; subst hu; rfl) (by omega) (by unfold maxLen; omega) (by omega) (by simp; omega) _ rfl ?_)
      intro G cap5 w5 hO hgr _ _
      have kA:=(Kept.refl w3).alloc (.cells #[.int .i64 yc] 3)
      have hOw:=World.ownsRow.alloc K.out.2 (.cells #[.int .i64 yc] 3)
      generalize w3.alloc (.cells #[.int .i64 yc] 3) = W5 at kA hgr hOw
      have KW:Kept w2 w5:=Below.grown (K.out.1.trans kA) hgr (K.out.1.trans kA).size (fun k hk => (World.ownsRow.lt hOw k hk).1)
      have HQ:=hid (And.intro KW (OwnI.snoc hO))
      clear kA hOw hgr hO KW
      go_wp2_with fail
      go_roundw
      case rel => exact ⟨k + 1,_,by omega,rfl,by go_num,HQ.out.1,by rw [HS1.out]; exact HQ.out.2⟩
      case measure => show nA - ((k:Int) + 1).toNat < nA - (k:Int).toNat; omega
     ·
      have hkk:¬ (k:Int) < (nA:Int):=by omega
      have hlk:L.take k = L:=List.take_of_length_le (by have:=HCS.out.2; omega)
      rw [hlk] at K
      clear hlk
      obtain ⟨ra,rcp,hrv⟩:=own_shape K.out.2
      have hrl:(colsOf L).length≤1000000:=by unfold colsOf; rw [List.length_map]; have:=HCS.out.2; omega
      have HPL:=hid (pat_len (rs:=rs) (i:=i) (by omega))
      generalize colsOf L = l at K HST hrv hrl
      generalize hp:patOf (rs.take i) = P at H HST HPL
      clear hp
      subst hrv
      obtain ⟨hs2,hgl,hown,hrows⟩:=H.out.2.kept K.out.1
      have HWW:=hid (And.intro hgl (And.intro hown hrows))
      have hsz:w1.heap.size≤w3.heap.size:=(H.out.1.trans K.out.1).size
      have hpl:P.length = i:=HPL.out
      have HPL:=hid hpl
      have hPb:P.length≤1000000:=by omega
      clear hgl hown hrows hpl
      --%F
      go_wp2_with (at_builtin; refine wpList_append_lies _ rfl (.tmp 45) (.tmp 47) 32 rfl w1.heap.size 41 i0 (.slice none 0 0) 1 24 und_intss hi hz0 hz1 hz2 rfl (by decide) u5 P.length hs2 rfl (by exact World.ownsRow.alloc HWW.out.2.1 _) ⟨w3.heap.size,0,none⟩ 1 1 [.slice ra l.length rcp] rfl rfl (cell_new w3 _ _) (fun u hu => by simp at hu; subst hu; rfl) (by omega) (by unfold maxLen; omega) (by omega) (by simp; omega) _ rfl ?_)
      intro G cap5 w5 hO hgr _ _
      have kA:=(Kept.refl w3).alloc (.cells #[.slice ra l.length rcp] 41)
      have hOw:=World.ownsRow.alloc HWW.out.2.1 (.cells #[.slice ra l.length rcp] 41)
      generalize w3.alloc (.cells #[.slice ra l.length rcp] 41) = W5 at kA hgr hOw
      have KW:Kept w1 w5:=Below.grown ((H.out.1.trans K.out.1).trans kA) hgr ((H.out.1.trans K.out.1).trans kA).size (fun k hk => (World.ownsRow.lt hOw k hk).1)
      have HB:=hid (fun (v:Value) (l:List Int) (hp:OwnI w1.heap.size w3 v l) => (show OwnI w1.heap.size w5 v l from own_kept (own_keptK hp kA) (fun b hb => hgr.block b (World.ownsRow.lt (own_keptK hp kA) b hb).2 (fun e => own_apart (own_keptK hp kA) hOw (by decide) b hb e.symm))))
      have HQ:=hid (And.intro KW (PatU.snoc (w:=w3) (w':=w5) HWW.out.1 hO HWW.out.2.2 HB.out (own_mono K.out.2 H.out.1.size)))
      clear kA hOw hgr hO KW s0 a2
      go_wp2_with fail
      go_roundw
      case rel => exact ⟨i + 1,_,by omega,rfl,by go_num,HQ.out.1,by rw [HST.out]; exact HQ.out.2⟩
      case measure => show n - ((i:Int) + 1).toNat < n - (i:Int).toNat; omega
   ·
    have hii:¬ (i:Int) < (n:Int):=by omega
    have hlk:rs.take i = rs:=List.take_of_length_le (by have:=HL.out.2.1; omega)
    have HF:=hid (show PatU w.heap.size w2 u5 x by have:=H.out.2; rw [hlk] at this; rw [HE.out.1]; exact this.mono HW.out.1.size)
    clear hlk
    go_wp2_with fail
    go_ret2
    exact ⟨HW.out.1.trans H.out.1,_,by rw [HE.out.2]; rfl,HF.out⟩
end Sy
end Go.Proofs.Ytojbncpifpghgaa

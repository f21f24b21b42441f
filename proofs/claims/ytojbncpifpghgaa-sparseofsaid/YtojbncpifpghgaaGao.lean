/- All of layer 1 that layer 2 leans on. Parts of fractions: sign, gcd, exact, quoRem, signed of rat. rat.lowest: is a fraction of right parts right itself? rat.refusal, of whatever list. rat.Check of whatever fraction (without the rest of layer 2's calls; never beside Fcone, Fof). -/
import Derived.Test.YtojbncpifpghgaaGan
import Derived.Test.YtojbncpifpghgaaGae
import Derived.Test.YtojbncpifpghgaaGaf
import Derived.Test.YtojbncpifpghgaaGak
import Derived.Test.YtojbncpifpghgaaGaj
import Derived.Deep.RegionWith
namespace Go.Proofs.Ytojbncpifpghgaa
end Go.Proofs.Ytojbncpifpghgaa

namespace Go.Proofs.Ytojbncpifpghgaa
open Go.RowKit
namespace F
theorem sign_nat {m:Bool} {l:List Nat} (h:R m l):isgn (M.int m l) 0 = if m then -1 else if 0 < l.length then 1 else 0:=by
 unfold isgn
 cases m with
 | true =>
  have:=int_neg_lt h
  rw [if_pos this]; rfl
 | false =>
  have h1:M.int false l = (M.val l:Int):=by simp [M.int]
  rw [h1]
  by_cases h0:0 < l.length
  ·
   have h2:=M.val_pos h.tr (fun e => by rw [e] at h0; simp at h0)
   rw [if_neg (by omega),if_neg (by omega)]
   simp [h0]
  ·
   have h2:l = []:=List.length_eq_zero_iff.1 (by omega)
   rw [h2]; simp [M.val]
set_option maxHeartbeats 1000000 in
theorem sign_any (m:Bool) (ao:Option Addr) (k cap:Nat) (l:List Nat) (w:World) (h:Sl w (.slice ao k cap) l) (hr:R m l) :
  Calls Try.prog 40 #[.agg #[.bool m,.slice ao k cap]] w fun e w' => e = .returned (.int .i64 (isgn (M.int m l) 0))∧Kept w w':=by
 have e1:=h.len
 have HV:=sign_nat hr
 have hk:k≤72:=by rw [e1]; exact hr.1
 have HS:Hid (isgn (M.int m l) 0 = if m then -1 else if 0 < k then 1 else 0):=by rw [e1]; exact HV
 clear HV e1 h hr
 cases m with
 | true =>
  go_enter Try.func40,Try.ntmps40
  go_wp2
  go_ret
  exact ⟨ret_i64 (by rw [HS.out]; rfl),(Kept.refl w).alloc _⟩
 | false =>
  by_cases h0:0 < k
  ·
   have h1:(0:Int) < (k:Int):=by omega
   go_enter Try.func40,Try.ntmps40
   go_wp2
   go_ret
   exact ⟨ret_i64 (by rw [HS.out]; simp [h0]),(Kept.refl w).alloc _⟩
  ·
   obtain rfl:k = 0:=by omega
   go_enter Try.func40,Try.ntmps40
   go_wp2
   go_ret
   exact ⟨ret_i64 (by rw [HS.out]; simp),(Kept.refl w).alloc _⟩
def IntIs (B:Nat) (w:World) (e:Ending) (z:Int):Prop:=∃ s ao k cap l,e = .returned (.agg #[.bool s,.slice ao k cap])∧New B w (.slice ao k cap) l∧M.Right s l∧M.int s l = z
set_option maxHeartbeats 1000000 in
theorem gcd_r (m n:Bool) (va vb:Value) (a b:List Nat) (w:World) (ha:Sl w va a) (hb:Sl w vb b) (hra:R m a) (hrb:R n b) :
  Calls Try.prog 42 #[.agg #[.bool m,va],.agg #[.bool n,vb]] w fun e w' => Kept w w'∧IntIs w.heap.size w' e ((Nat.gcd (M.val a) (M.val b):Nat):Int):=by
 have HR:Hid (R m a∧R n b):=⟨hra,hrb⟩
 have HA:Hid (Sl w va a∧Sl w vb b):=⟨ha,hb⟩
 clear hra hrb ha hb
 have K3:∀ x y t,Kept w (((w.alloc x).alloc y).alloc t):=fun x y t => (((Kept.refl w).alloc x).alloc y).alloc t
 go_enter Try.func42,Try.ntmps42
 go_wp2_with fail
 refine (gcd_any m n va vb a b _ (HA.out.1.kept (K3 _ _ _)) (HA.out.2.kept (K3 _ _ _)) HR.out.1 HR.out.2).mono ?_
 rintro e w1 ⟨hk,ao,k,cap,l,rfl,hn,hr,hv⟩
 obtain ⟨_,_,_,_,hR0,hR1⟩:=box_kept3 hk
 have hsz:=hk.size
 simp at hsz
 have hsz1:w.heap.size + 1 + 1 < w1.heap.size:=by omega
 have hf:∀ o,w1.frozen? ⟨w.heap.size + 1 + 1,o,none⟩ = false:=fun o => by rw [hk.frozens (w.heap.size + 1 + 1) o (by simp)]; exact World.frozen?_alloc_at _ _ _ _ (by simp)
 have HF:Hid (Kept w w1∧New (w.heap.size + 1 + 1 + 1) w1 (.slice ao k cap) l∧M.Right false l∧M.val l = Nat.gcd (M.val a) (M.val b)):=⟨(K3 _ _ _).trans hk,hn.mono (by simp),hr,hv⟩
 clear hk hn hr hv K3
 go_wp2
 refine bodyPost_ret (v:=.agg #[.bool false,.slice ao k cap]) (by simp [results,Try.results42,go_sem,hR0,hR1,hsz1]) rfl ⟨?_,false,ao,k,cap,l,rfl,?_,HF.out.2.2.1,by simp [M.int,HF.out.2.2.2]⟩
 ·
  exact ((HF.out.1.setCell (by show w.heap.size≤w.heap.size + 1 + 1; omega) _).setCell (by show w.heap.size≤w.heap.size + 1 + 1; omega) _).alloc _
 ·
  exact (((HF.out.2.1.other (by show w.heap.size + 1 + 1 < w.heap.size + 1 + 1 + 1; omega) _).other (by show w.heap.size + 1 + 1 < w.heap.size + 1 + 1 + 1; omega) _).kept ((Kept.refl _).alloc _)).mono (by omega)
end F
end Go.Proofs.Ytojbncpifpghgaa

namespace Go.Proofs.Ytojbncpifpghgaa
open Go.RowKit
namespace F
set_option maxHeartbeats 2000000 in
theorem lowest_r (m n:Bool) (aoa aob:Option Addr) (ka ca kb cb:Nat) (a b:List Nat) (w:World) (ha:Sl w (.slice aoa ka ca) a) (hb:Sl w (.slice aob kb cb) b) (hra:R m a) (hrb:R n b) :
  Calls Try.prog 39 #[.agg #[.bool m,.slice aoa ka ca,.bool n,.slice aob kb cb]] w fun e w' => e = .returned (.bool (decide (0 < M.int n b∧Nat.gcd (M.val a) (M.val b) = 1)))∧Kept w w':=by
 have HR:Hid (R m a∧R n b):=⟨hra,hrb⟩
 have HA:Hid (Sl w (.slice aoa ka ca) a∧Sl w (.slice aob kb cb) b):=⟨ha,hb⟩
 obtain ⟨sb,hsb⟩:∃ sb,sb = isgn (M.int n b) 0:=⟨_,rfl⟩
 have HN:Hid (sb = isgn (M.int n b) 0):=hsb
 clear ha hb hra hrb hsb
 have K1:∀ x,Kept w (w.alloc x):=fun x => (Kept.refl w).alloc x
 by_cases hs:sb≤0
 ·
  go_enter Try.func39,Try.ntmps39
  go_wp2_with fail
  refine (sign_any n aob kb cb b _ (HA.out.2.kept (K1 _)) HR.out.2).mono ?_
  rintro e w1 ⟨rfl,hk⟩
  rw [← HN.out]
  have HK:Hid (Kept w w1):=(K1 _).trans hk
  clear hk K1
  go_wp2
  go_ret
  refine ⟨ret_bool ?_,HK.out⟩
  have h:=HN.out
  rw [h] at hs
  symm
  simp only [decide_eq_false_iff_not]
  intro hc
  unfold isgn at hs
  rw [if_neg (by omega),if_neg (by omega)] at hs
  omega
 ·
  go_enter Try.func39,Try.ntmps39
  go_wp2_with fail
  refine (sign_any n aob kb cb b _ (HA.out.2.kept (K1 _)) HR.out.2).mono ?_
  rintro e w1 ⟨rfl,hk⟩
  rw [← HN.out]
  have HK:Hid (Kept w w1):=(K1 _).trans hk
  have hc:=hk.cells
  clear hk K1
  go_wp2_with fail
  refine (gcd_r m n _ _ a b _ (HA.out.1.kept HK.out) (HA.out.2.kept HK.out) HR.out.1 HR.out.2).mono ?_
  rintro e w2 ⟨hk2,s,ao,k,cap,l,rfl,hn,hr,hi⟩
  clear hc
  have HI:Hid (Sl w2 (.slice ao k cap) l∧R s l∧M.int s l = ((Nat.gcd (M.val a) (M.val b):Nat):Int)∧Kept w w2):=⟨hn.sl,R.of_right hr,hi,HK.out.trans hk2⟩
  clear hn hr hi hk2
  go_wp2_with fail
  refine (int64_yes s ao k cap l w2 HI.out.1 HI.out.2.1).mono ?_
  rintro e w3 ⟨rfl,hk3⟩
  obtain ⟨v,hv⟩:∃ v,v = i64r (M.int s l):=⟨_,rfl⟩
  obtain ⟨c,hc⟩:∃ c,c = i64e (M.int s l):=⟨_,rfl⟩
  rw [← hv,← hc]
  have HV:Hid (v = i64r (M.int s l)∧Kept w w3):=⟨hv,HI.out.2.2.2.trans hk3⟩
  clear hv hc hk3
  go_wp2
  go_ret
  refine ⟨ret_bool ?_,HV.out.2⟩
  have h1:=HN.out
  have h2:=HI.out.2.2.1
  have h0:0 < M.int n b:=by
   rw [h1] at hs
   unfold isgn at hs
   by_cases h4:M.int n b < 0
   ·
    rw [if_pos h4] at hs; omega
   ·
    rw [if_neg h4] at hs
    by_cases h5:M.int n b = 0
    ·
     rw [if_pos h5] at hs; omega
    ·
     omega
  have h3:v = 1 ↔ Nat.gcd (M.val a) (M.val b) = 1:=by
   rw [HV.out.1,h2]
   unfold i64r
   split <;> omega
  rw [Bool.eq_iff_iff]
  simp [h0,h3]
end F
end Go.Proofs.Ytojbncpifpghgaa

namespace Go.Proofs.Ytojbncpifpghgaa
open Go.RowKit
namespace F
theorem hid' {p:Prop} (h:p):Hid p:=h
def RatAll (w:World) (b off N:Nat) (m n:Nat→Bool) (aa ad:Nat→Option Addr) (ka ca kd cd:Nat→Nat) (a d:Nat→List Nat):Prop :=
 ∀ i,i < N→(w.cell? ⟨b,off + i * 4,none⟩ = some (.bool (m i))∧w.cell? ⟨b,off + i * 4 + 1,none⟩ = some (.slice (aa i) (ka i) (ca i))∧w.cell? ⟨b,off + i * 4 + 2,none⟩ = some (.bool (n i))∧w.cell? ⟨b,off + i * 4 + 3,none⟩ = some (.slice (ad i) (kd i) (cd i)))∧Sl w (.slice (aa i) (ka i) (ca i)) (a i)∧Sl w (.slice (ad i) (kd i) (cd i)) (d i)∧(a i).length≤9223372036854775807∧(d i).length≤9223372036854775807
def Refused (N:Nat) (m n:Nat→Bool) (a d:Nat→List Nat) (c:Int):Prop :=
 (c = 10∧∃ i,i < N∧¬ (R (m i) (a i)∧R (n i) (d i))) ∨ ((∀ i,i < N→R (m i) (a i)∧R (n i) (d i))∧((c = 20∧∃ i,i < N∧¬ (0 < M.int (n i) (d i)∧Nat.gcd (M.val (a i)) (M.val (d i)) = 1)) ∨ (c = 0∧∀ i,i < N→0 < M.int (n i) (d i)∧Nat.gcd (M.val (a i)) (M.val (d i)) = 1)))
set_option maxHeartbeats 4000000 in
theorem refusal_any (ao:Option Addr) (b off N cap:Nat) (w:World) (m n:Nat→Bool) (aa ad:Nat→Option Addr) (ka ca kd cd:Nat→Nat) (a d:Nat→List Nat) (hao:0 < N→ao = some ⟨b,off,none⟩) (hN:N≤1000000) (H:RatAll w b off N m n aa ad ka ca kd cd a d) :
  Calls Try.prog 37 #[.slice ao N cap] w fun e w' => Kept w w'∧∃ c:Int,e = .returned (.int .i64 c)∧Refused N m n a d c:=by
 have HH:Hid (RatAll w b off N m n aa ad ka ca kd cd a d∧(0 < N→ao = some ⟨b,off,none⟩)):=⟨H,hao⟩
 clear H hao
 go_enter Try.func37,Try.ntmps37
 go_wp2_with fail
 go_loopw [9] (fun vi wr => ∃ k:Nat,k≤N∧vi = .int .i64 (k:Int)∧Hid (Kept w wr∧∀ i,i < k→R (m i) (a i)∧R (n i) (d i))) (fun vi _ => N - (intOf vi).toNat)
 case atStart => exact ⟨0,Nat.zero_le _,rfl,Kept.refl w,fun i hi => by omega⟩
 case round =>
  obtain ⟨k,hk,rfl,HK⟩:=hrel
  by_cases hlt:k < N
  ·
   obtain ⟨⟨h0,h1,h2,h3⟩,h4⟩:=HH.out.1 k hlt
   obtain rfl:=HH.out.2 (by omega)
   have h0:=cell_kept HK.out.1 h0
   have h1:=cell_kept HK.out.1 h1
   have h2:=cell_kept HK.out.1 h2
   have h3:=cell_kept HK.out.1 h3
   have H4:=hid' h4
   clear h4
   by_cases hA:R (m k) (a k)
   ·
    have HA:=hid' hA
    clear hA
    go_wp2_with fail
    refine (check_yes (m k) _ (a k) _ (H4.out.1.kept (HK.out.1.alloc _)) HA.out).mono ?_
    rintro e w1 ⟨rfl,hk1⟩
    have c2:w1.cell? ⟨wr.heap.size,2,none⟩ = some (.bool (n k)):=by rw [hk1.cells _ _ (by simp)]; simp
    have c3:w1.cell? ⟨wr.heap.size,3,none⟩ = some (.slice (ad k) (kd k) (cd k)):=by rw [hk1.cells _ _ (by simp)]; simp
    have HK1:Hid (Kept w w1):=(HK.out.1.alloc _).trans hk1
    clear hk1
    by_cases hD:R (n k) (d k)
    ·
     have HD:=hid' hD
     clear hD
     go_wp2_with fail
     refine (check_yes (n k) _ (d k) _ (H4.out.2.1.kept HK1.out) HD.out).mono ?_
     rintro e w2 ⟨rfl,hk2⟩
     have HK2:Hid (Kept w w2):=HK1.out.trans hk2
     clear hk2
     go_wp2_with fail
     go_roundw
     case rel => exact ⟨k + 1,by omega,by go_num,HK2.out,fun i hi => if h:i = k then by rw [h]; exact ⟨HA.out,HD.out⟩ else HK.out.2 i (by omega)⟩
     case measure => simp [intOf]; omega
    ·
     have HD:=hid' hD
     clear hD
     go_wp2_with fail
     refine (check_no (n k) _ (d k) _ (H4.out.2.1.kept HK1.out) H4.out.2.2.2 HD.out).mono ?_
     rintro e w2 ⟨rfl,hk2⟩
     have HK2:Hid (Kept w w2):=HK1.out.trans hk2
     clear hk2
     go_wp2
     go_ret
     exact ⟨HK2.out,10,rfl,.inl ⟨rfl,k,hlt,fun h => HD.out h.2⟩⟩
   ·
    have HA:=hid' hA
    clear hA
    go_wp2_with fail
    refine (check_no (m k) _ (a k) _ (H4.out.1.kept (HK.out.1.alloc _)) H4.out.2.2.1 HA.out).mono ?_
    rintro e w1 ⟨rfl,hk1⟩
    have HK1:Hid (Kept w w1):=(HK.out.1.alloc _).trans hk1
    clear hk1
    go_wp2
    go_ret
    exact ⟨HK1.out,10,rfl,.inl ⟨rfl,k,hlt,fun h => HA.out h.1⟩⟩
  ·
   have HR:Hid (∀ i,i < N→R (m i) (a i)∧R (n i) (d i)):=fun i hi => HK.out.2 i (by omega)
   go_wp2_with fail
   go_loopw [26] (fun vi wr => ∃ k:Nat,k≤N∧vi = .int .i64 (k:Int)∧Hid (Kept w wr∧∀ i,i < k→0 < M.int (n i) (d i)∧Nat.gcd (M.val (a i)) (M.val (d i)) = 1)) (fun vi _ => N - (intOf vi).toNat)
   case atStart => exact ⟨0,Nat.zero_le _,rfl,HK.out.1,fun i hi => by omega⟩
   case round =>
    obtain ⟨k,hk,rfl,HK⟩:=hrel
    by_cases hlt:k < N
    ·
     obtain ⟨⟨h0,h1,h2,h3⟩,h4⟩:=HH.out.1 k hlt
     obtain rfl:=HH.out.2 (by omega)
     have h0:=cell_kept HK.out.1 h0
     have h1:=cell_kept HK.out.1 h1
     have h2:=cell_kept HK.out.1 h2
     have h3:=cell_kept HK.out.1 h3
     have H4:=hid' h4
     clear h4
     go_wp2_with fail
     refine (lowest_r (m k) (n k) (aa k) (ad k) (ka k) (ca k) (kd k) (cd k) (a k) (d k) _ (H4.out.1.kept (HK.out.1.alloc _)) (H4.out.2.1.kept (HK.out.1.alloc _)) (HR.out k hlt).1 (HR.out k hlt).2).mono ?_
     by_cases hl:0 < M.int (n k) (d k)∧Nat.gcd (M.val (a k)) (M.val (d k)) = 1
     ·
      rw [decide_eq_true hl]
      have HL:=hid' hl
      clear hl
      rintro e w1 ⟨rfl,hk1⟩
      have HK1:Hid (Kept w w1):=(HK.out.1.alloc _).trans hk1
      clear hk1
      go_wp2_with fail
      go_roundw
      case rel => exact ⟨k + 1,by omega,by go_num,HK1.out,fun i hi => if h:i = k then by rw [h]; exact HL.out else HK.out.2 i (by omega)⟩
      case measure => simp [intOf]; omega
     ·
      rw [decide_eq_false hl]
      have HL:=hid' hl
      clear hl
      rintro e w1 ⟨rfl,hk1⟩
      have HK1:Hid (Kept w w1):=(HK.out.1.alloc _).trans hk1
      clear hk1
      go_wp2
      go_ret
      exact ⟨HK1.out,20,rfl,.inr ⟨HR.out,.inl ⟨rfl,k,hlt,HL.out⟩⟩⟩
    ·
     go_wp2
     go_ret
     exact ⟨HK.out.1,0,rfl,.inr ⟨HR.out,.inr ⟨rfl,fun i hi => HK.out.2 i (by omega)⟩⟩⟩
end F
end Go.Proofs.Ytojbncpifpghgaa

namespace Go.Proofs.Ytojbncpifpghgaa
open Go.RowKit
namespace F
theorem RatAll.single {w:World} {b:Nat} {m n:Bool} {a1 a2:Option Addr} {k1 c1 k2 c2:Nat} {an ad:List Nat}
  (h0:w.cell? ⟨b,0,none⟩ = some (.bool m)) (h1:w.cell? ⟨b,1,none⟩ = some (.slice a1 k1 c1)) (h2:w.cell? ⟨b,2,none⟩ = some (.bool n)) (h3:w.cell? ⟨b,3,none⟩ = some (.slice a2 k2 c2))
  (s1:Sl w (.slice a1 k1 c1) an) (s2:Sl w (.slice a2 k2 c2) ad) (l1:an.length≤9223372036854775807) (l2:ad.length≤9223372036854775807) :
  RatAll w b 0 1 (fun _ => m) (fun _ => n) (fun _ => a1) (fun _ => a2) (fun _ => k1) (fun _ => c1) (fun _ => k2) (fun _ => c2) (fun _ => an) (fun _ => ad):=by
 intro i hi
 match i,hi with
 | 0,_ => exact ⟨⟨h0,h1,h2,h3⟩,s1,s2,l1,l2⟩
set_option maxHeartbeats 1000000 in
theorem Check_any (m n:Bool) (aoa aob:Option Addr) (ka ca kb cb:Nat) (a d:List Nat) (w:World) (ha:Sl w (.slice aoa ka ca) a) (hd:Sl w (.slice aob kb cb) d) (hla:a.length≤9223372036854775807) (hld:d.length≤9223372036854775807) :
  Calls Try.prog 36 #[.agg #[.bool m,.slice aoa ka ca,.bool n,.slice aob kb cb]] w fun e w' => Kept w w'∧∃ c:Int,e = .returned (.int .i64 c)∧Refused 1 (fun _ => m) (fun _ => n) (fun _ => a) (fun _ => d) c:=by
 have HA:Hid (Sl w (.slice aoa ka ca) a∧Sl w (.slice aob kb cb) d∧a.length≤9223372036854775807∧d.length≤9223372036854775807):=⟨ha,hd,hla,hld⟩
 clear ha hd hla hld
 have K2:∀ x y,Kept w ((w.alloc x).alloc y):=fun x y => ((Kept.refl w).alloc x).alloc y
 go_enter Try.func36,Try.ntmps36
 go_wp2_with fail
 refine (refusal_any _ (w.heap.size + 1) 0 1 1 _ _ _ _ _ _ _ _ _ _ _ (fun _ => rfl) (by omega) (RatAll.single (m:=m) (n:=n) (a1:=aoa) (a2:=aob) (k1:=ka) (c1:=ca) (k2:=kb) (c2:=cb) (by simp) (by simp) (by simp) (by simp) (HA.out.1.kept (K2 _ _)) (HA.out.2.1.kept (K2 _ _)) HA.out.2.2.1 HA.out.2.2.2)).mono ?_
 rintro e w1 ⟨hk,c,rfl,hc⟩
 have HK:Hid (Kept w w1∧Refused 1 (fun _ => m) (fun _ => n) (fun _ => a) (fun _ => d) c):=⟨(K2 _ _).trans hk,hc⟩
 clear hk hc K2
 go_wp2
 go_ret
 exact ⟨HK.out.1,c,rfl,HK.out.2⟩
end F
end Go.Proofs.Ytojbncpifpghgaa

/- signedSum: a sum of whole numbers with signs. Add, Sub, of right whole numbers. Mul, of right whole numbers. Cmp, of right whole numbers. -/
import Derived.Test.YtdcgdpbgnijnpaaGreatGac
import Derived.Deep.RegionHeld3
namespace Go.Proofs.YtdcgdpbgnijnpaaGreat
open Go.RowKit
def Fin (B:Nat) (w:World) (s:Bool) (v:Value) (c:Int) (z:Int):Prop :=
 (c = 0∧∃ l,New B w v l∧M.Right s l∧M.int s l = z) ∨ (c = 13∧s = false∧v = .slice none 0 0∧M.W72≤z.natAbs)
def AnsIs (B:Nat) (w:World) (e:Ending) (z:Int):Prop :=
 ∃ (s:Bool) (ao:Option Addr) (n cap:Nat) (c:Int),e = .returned (.tuple #[.agg #[.bool s,.slice ao n cap],.int .i64 c])∧Fin B w s (.slice ao n cap) c z
theorem answer_any {B:Nat} (neg:Bool) (v:Value) (l:List Nat) (w:World) (h:New B w v l) (ht:M.Tr l) (hl:l.length≤1000000) :
  Calls Tryz.prog 110 #[.bool neg,v] w fun e w' => Kept w w'∧AnsIs B w' e (M.int neg l):=by
 obtain ⟨ao,cap,rfl⟩:=h.shape
 have e1:M.int (neg && decide (0 < l.length)) l = M.int neg l:=by
  by_cases h0:0 < l.length
  ·
   simp [h0]
  ·
   have:l = []:=List.length_eq_zero_iff.1 (by omega)
   subst this; cases neg <;> simp [M.int,M.val]
 have e2:l = []→(neg && decide (0 < l.length)) = false:=by intro h; simp [h]
 by_cases hw:l.length≤72
 ·
  refine (answer_fits neg ao l.length cap w hw).mono ?_
  rintro e w' ⟨rfl,hk⟩
  exact ⟨hk,_,_,_,_,_,rfl,.inl ⟨rfl,l,h.kept hk,⟨h.1,ht,hw,e2⟩,e1⟩⟩
 ·
  refine (answer_wide neg ao l.length cap w (by omega) hl).mono ?_
  rintro e w' ⟨rfl,hk⟩
  exact ⟨hk,_,_,_,_,_,rfl,.inr ⟨rfl,rfl,rfl,by rw [M.natAbs_int]; exact M.W72_le ht (by omega)⟩⟩
theorem box_kept {w w1:World} {c0 c1:Value} {t:TypeId} (h:Kept (w.alloc (.cells #[c0,c1] t)) w1):w1.cell? ⟨w.heap.size,0,none⟩ = some c0∧w1.cell? ⟨w.heap.size,1,none⟩ = some c1:=by
 constructor <;> (rw [h.cells _ _ (by simp)]; simp)
theorem Fin.other {B:Nat} {w:World} {s:Bool} {v:Value} {c z:Int} (h:Fin B w s v c z) {p:Addr} (hp:p.block < B) (u:Value):Fin B (w.setCell p u) s v c z:=by
 rcases h with ⟨h1,l,h2,h3⟩ | h
 ·
  exact .inl ⟨h1,l,h2.other hp u,h3⟩
 ·
  exact .inr h
theorem Fin.mono {B B':Nat} {w:World} {s:Bool} {v:Value} {c z:Int} (h:Fin B w s v c z) (hB:B'≤B):Fin B' w s v c z:=by
 rcases h with ⟨h1,l,h2,h3⟩ | h
 ·
  exact .inl ⟨h1,l,h2.mono hB,h3⟩
 ·
  exact .inr h
theorem Fin.kept {B:Nat} {w w':World} {s:Bool} {v:Value} {c z:Int} (h:Fin B w s v c z) (k:Kept w w'):Fin B w' s v c z:=by
 rcases h with ⟨h1,l,h2,h3⟩ | h
 ·
  exact .inl ⟨h1,l,h2.kept k,h3⟩
 ·
  exact .inr h
theorem int_same {m n:Bool} {a b l:List Nat} (hmn:m = n) (h:M.val l = M.val a + M.val b):M.int n l = M.int m a + M.int n b:=by
 subst hmn; unfold M.int; cases m <;> simp [h]; omega
theorem int_lt {m n:Bool} {a b l:List Nat} (hmn:m ≠ n) (hc:M.val a≤M.val b) (h:M.val l = M.val b - M.val a):M.int n l = M.int m a + M.int n b:=by
 unfold M.int; cases m <;> cases n <;> simp at hmn ⊢ <;> omega
theorem int_ge {m n:Bool} {a b l:List Nat} (hmn:m ≠ n) (hc:M.val b≤M.val a) (h:M.val l = M.val a - M.val b):M.int m l = M.int m a + M.int n b:=by
 unfold M.int; cases m <;> cases n <;> simp at hmn ⊢ <;> omega
set_option maxHeartbeats 1000000 in
theorem ssum_same (m n:Bool) (va vb:Value) (a b:List Nat) (w:World) (ha:Sl w va a) (hb:Sl w vb b) (hla:a.length≤1000) (hlb:b.length≤1000) (hmn:m = n) :
  Calls Tryz.prog 112 #[.agg #[.bool m,va],.bool n,vb] w fun e w' => Kept w w'∧AnsIs w.heap.size w' e (M.int m a + M.int n b):=by
 have hI:=fun l h => int_same (m:=m) (n:=n) (a:=a) (b:=b) (l:=l) hmn h
 have HI:Hid (∀ l,M.val l = M.val a + M.val b→M.int n l = M.int m a + M.int n b):=hI
 clear hI
 obtain ⟨z,hz⟩:∃ z,z = M.int m a + M.int n b:=⟨_,rfl⟩
 rw [← hz]
 have HZ:Hid (z = M.int m a + M.int n b):=hz
 clear hz
 subst hmn
 have K2:∀ x y,Kept w ((w.alloc x).alloc y):=fun x y => ((Kept.refl w).alloc x).alloc y
 go_enter Tryz.func112,Tryz.ntmps112
 go_wp2_with fail
 refine (sum_any va vb a b _ (ha.kept (K2 _ _)) (hb.kept (K2 _ _)) hla hlb).mono ?_
 rintro e w1 ⟨hk,v',l',rfl,hn,ht,hv,hl⟩
 go_wp2_with fail
 refine (answer_any m v' l' w1 hn ht (by omega)).mono ?_
 rintro e w2 ⟨hk2,s,ao,nn,cap,c,rfl,hF⟩
 have hKW:=hk.trans hk2
 have hc:=hKW.cells
 have hf:=hKW.frozens
 have HK:Hid (Kept w w2):=(K2 _ _).trans hKW
 have HF:Hid (Fin (w.heap.size + 1 + 1) w2 s (.slice ao nn cap) c z):=by
  show Fin _ _ _ _ _ _
  rw [HI.out l' hv,← HZ.out] at hF
  simpa using hF
 clear hk hk2 hn ht hv hl hF hKW K2
 go_wp2
 exact bodyPost_ret (v:=.tuple #[.agg #[.bool s,.slice ao nn cap],.int .i64 c]) (by simp [results,Tryz.results112,go_sem,hc]) rfl ⟨(HK.out.setCell (by simp) _).setCell (by simp) _,_,_,_,_,_,rfl,((HF.out.other (by simp) _).other (by simp) _).mono (by omega)⟩
set_option maxHeartbeats 1000000 in
theorem ssum_lt (m n:Bool) (va vb:Value) (a b:List Nat) (w:World) (ha:Sl w va a) (hb:Sl w vb b) (hla:a.length≤1000) (hlb:b.length≤1000) (ta:M.Tr a) (tb:M.Tr b) (hmn:m ≠ n) (hlt:M.val a < M.val b) :
  Calls Tryz.prog 112 #[.agg #[.bool m,va],.bool n,vb] w fun e w' => Kept w w'∧AnsIs w.heap.size w' e (M.int m a + M.int n b):=by
 have hI:=fun l h => int_lt (m:=m) (n:=n) (a:=a) (b:=b) (l:=l) hmn (Nat.le_of_lt hlt) h
 have HI:Hid (∀ l,M.val l = M.val b - M.val a→M.int n l = M.int m a + M.int n b):=hI
 clear hI
 obtain ⟨z,hz⟩:∃ z,z = M.int m a + M.int n b:=⟨_,rfl⟩
 rw [← hz]
 have HZ:Hid (z = M.int m a + M.int n b):=hz
 clear hz
 have HLT:Hid (M.val a < M.val b):=hlt
 have hmn':(m == n) = false:=by simpa using hmn
 have HT:Hid (M.Tr a∧M.Tr b):=⟨ta,tb⟩
 clear hlt hmn ta tb
 have K2:∀ x y,Kept w ((w.alloc x).alloc y):=fun x y => ((Kept.refl w).alloc x).alloc y
 go_enter Tryz.func112,Tryz.ntmps112
 go_wp2_with fail
 refine (compare_any va vb a b _ (ha.kept (K2 _ _)) (hb.kept (K2 _ _)) hla hlb HT.out.1 HT.out.2).mono ?_
 rintro e w0 ⟨rfl,nq,rfl⟩
 rw [sgn,if_pos HLT.out]
 go_wp2_with fail
 refine (difference_any vb va b a _ (hb.kept ((K2 _ _).drewN nq)) (ha.kept ((K2 _ _).drewN nq)) hlb hla (Nat.le_of_lt HLT.out) (M.len_le_of_val_le HT.out.1 hb.bd (Nat.le_of_lt HLT.out))).mono ?_
 rintro e w1 ⟨hk,v',l',rfl,hn,ht,hv,hl⟩
 go_wp2_with fail
 refine (answer_any n v' l' w1 hn ht (by omega)).mono ?_
 rintro e w2 ⟨hk2,s,ao,nn,cap,c,rfl,hF⟩
 have hKW:=hk.trans hk2
 have hc:=hKW.cells
 have hf:=hKW.frozens
 have HK:Hid (Kept w w2):=((K2 _ _).drewN nq).trans hKW
 have HF:Hid (Fin (w.heap.size + 1 + 1) w2 s (.slice ao nn cap) c z):=by
  show Fin _ _ _ _ _ _
  rw [HI.out l' hv,← HZ.out] at hF
  simpa using hF
 clear hk hk2 hn ht hv hl hF hKW K2
 go_wp2
 exact bodyPost_ret (v:=.tuple #[.agg #[.bool s,.slice ao nn cap],.int .i64 c]) (by simp [results,Tryz.results112,go_sem,hc]) rfl ⟨(HK.out.setCell (by simp) _).setCell (by simp) _,_,_,_,_,_,rfl,((HF.out.other (by simp) _).other (by simp) _).mono (by omega)⟩
set_option maxHeartbeats 1000000 in
theorem ssum_ge (m n:Bool) (va vb:Value) (a b:List Nat) (w:World) (ha:Sl w va a) (hb:Sl w vb b) (hla:a.length≤1000) (hlb:b.length≤1000) (ta:M.Tr a) (tb:M.Tr b) (hmn:m ≠ n) (hlt:M.val b≤M.val a) :
  Calls Tryz.prog 112 #[.agg #[.bool m,va],.bool n,vb] w fun e w' => Kept w w'∧AnsIs w.heap.size w' e (M.int m a + M.int n b):=by
 have hI:=fun l h => int_ge (m:=m) (n:=n) (a:=a) (b:=b) (l:=l) hmn hlt h
 have HI:Hid (∀ l,M.val l = M.val a - M.val b→M.int m l = M.int m a + M.int n b):=hI
 clear hI
 obtain ⟨z,hz⟩:∃ z,z = M.int m a + M.int n b:=⟨_,rfl⟩
 rw [← hz]
 have HZ:Hid (z = M.int m a + M.int n b):=hz
 clear hz
 have HLT:Hid (M.val b≤M.val a):=hlt
 have hmn':(m == n) = false:=by simpa using hmn
 have HT:Hid (M.Tr a∧M.Tr b):=⟨ta,tb⟩
 clear hlt hmn ta tb
 have K2:∀ x y,Kept w ((w.alloc x).alloc y):=fun x y => ((Kept.refl w).alloc x).alloc y
 go_enter Tryz.func112,Tryz.ntmps112
 go_wp2_with fail
 refine (compare_any va vb a b _ (ha.kept (K2 _ _)) (hb.kept (K2 _ _)) hla hlb HT.out.1 HT.out.2).mono ?_
 rintro e w0 ⟨rfl,nq,rfl⟩
 have hs:0≤sgn (M.val a) (M.val b):=by unfold sgn; have:=HLT.out; split; omega; split <;> omega
 generalize sgn (M.val a) (M.val b) = r at *
 go_wp2_with fail
 go_region_held3 (fun w' => w'.cell? ⟨w.heap.size,0,none⟩ = some (.bool m)∧w'.cell? ⟨w.heap.size,1,none⟩ = some va) (go_keep) (first
  | (go_at_call 122; refine (difference_any va vb a b _ ?_ ?_ hla hlb HLT.out (M.len_le_of_val_le HT.out.2 ha.bd HLT.out)).mono ?_; exact ha.kept (((K2 _ _).drewN nq).drew); exact hb.kept (((K2 _ _).drewN nq).drew); rintro e w1 ⟨hk,v',l',rfl,hn,ht,hv,hl⟩; obtain ⟨hb0,hb1⟩:=box_kept ((((Kept.refl (w.alloc (.cells #[.bool m,va] 37))).alloc _).drewN nq).drew.trans hk))
  | (go_at_call 110; refine (answer_any m v' l' _ hn ht (by omega)).mono ?_; rintro e w2 ⟨hk2,s,ao,nn,cap,c,rfl,hF⟩; obtain ⟨hb2,hb3⟩:=box_kept ((((Kept.refl (w.alloc (.cells #[.bool m,va] 37))).alloc _).drewN nq).drew.trans (hk.trans hk2)); have hc:=(hk.trans hk2).cells; have hf:=(hk.trans hk2).frozens))
 have HK:Hid (Kept w w2):=(((K2 _ _).drewN nq).drew.trans hk).trans hk2
 have HF:Hid (Fin (w.heap.size + 1 + 1) w2 s (.slice ao nn cap) c z):=by
  show Fin _ _ _ _ _ _
  rw [HI.out l' hv,← HZ.out] at hF
  simpa using hF
 clear hk hk2 hn ht hv hl hF K2 hb0 hb1 hb2 hb3
 go_wp2
 exact bodyPost_ret (v:=.tuple #[.agg #[.bool s,.slice ao nn cap],.int .i64 c]) (by simp [results,Tryz.results112,go_sem,hc]) rfl ⟨(HK.out.setCell (by simp) _).setCell (by simp) _,_,_,_,_,_,rfl,((HF.out.other (by simp) _).other (by simp) _).mono (by omega)⟩
theorem ssum_any (m n:Bool) (va vb:Value) (a b:List Nat) (w:World) (ha:Sl w va a) (hb:Sl w vb b) (hla:a.length≤1000) (hlb:b.length≤1000) (ta:M.Tr a) (tb:M.Tr b) :
  Calls Tryz.prog 112 #[.agg #[.bool m,va],.bool n,vb] w fun e w' => Kept w w'∧AnsIs w.heap.size w' e (M.int m a + M.int n b):=by
 by_cases h:m = n
 ·
  exact ssum_same m n va vb a b w ha hb hla hlb h
 ·
  by_cases h2:M.val a < M.val b
  ·
   exact ssum_lt m n va vb a b w ha hb hla hlb ta tb h h2
  ·
   exact ssum_ge m n va vb a b w ha hb hla hlb ta tb h (by omega)
end Go.Proofs.YtdcgdpbgnijnpaaGreat

namespace Go.Proofs.YtdcgdpbgnijnpaaGreat
open Go.RowKit
theorem int_neg (n:Bool) (b:List Nat):M.int (!n) b = -M.int n b:=by unfold M.int; cases n <;> simp
set_option maxHeartbeats 1000000 in
theorem sub_any (m n:Bool) (va vb:Value) (a b:List Nat) (w:World) (ha:Sl w va a) (hb:Sl w vb b) (hra:R m a) (hrb:R n b) :
  Calls Tryz.prog 94 #[.agg #[.bool m,va],.agg #[.bool n,vb]] w fun e w' => Kept w w'∧AnsIs w.heap.size w' e (M.int m a - M.int n b):=by
 obtain ⟨z,hz⟩:∃ z,z = M.int m a - M.int n b:=⟨_,rfl⟩
 rw [← hz]
 have HZ:Hid (M.int m a + M.int (!n) b = z):=by rw [hz]; exact (show M.int m a + M.int (!n) b = M.int m a - M.int n b by rw [int_neg]; omega)
 have HR:Hid (R m a∧R n b):=⟨hra,hrb⟩
 clear hz hra hrb
 have K3:∀ x y t,Kept w (((w.alloc x).alloc y).alloc t):=fun x y t => (((Kept.refl w).alloc x).alloc y).alloc t
 go_enter Tryz.func94,Tryz.ntmps94
 go_wp2_with fail
 refine (wrong_no m n va vb a b _ (ha.kept (K3 _ _ _)) (hb.kept (K3 _ _ _)) HR.out.1 HR.out.2).mono ?_
 rintro e w1 ⟨rfl,hk⟩
 have hc:=hk.cells
 have HK1:Hid (Kept w w1):=(K3 _ _ _).trans hk
 have HKa:Hid (Kept (((w.alloc (.cells #[.bool m,va] 37)).alloc (.cells #[.bool n,vb] 37)).alloc (.cells #[.bool false,.slice none 0 0] 37)) w1):=hk
 clear hk
 go_wp2_with fail
 refine (ssum_any m (!n) va vb a b _ (ha.kept HK1.out) (hb.kept HK1.out) (by have:=HR.out.1.1; omega) (by have:=HR.out.2.1; omega) HR.out.1.tr HR.out.2.tr).mono ?_
 rintro e w2 ⟨hk2,s,ao,nn,cap,c,rfl,hF⟩
 clear hc
 have hKW:=HKa.out.trans hk2
 have hc:=hKW.cells
 have hf:=hKW.frozens
 have HK:Hid (Kept w w2):=HK1.out.trans hk2
 have HF:Hid (Fin (w.heap.size + 1 + 1 + 1) w2 s (.slice ao nn cap) c z):=by
  show Fin _ _ _ _ _ _
  rw [HZ.out] at hF
  exact hF.mono (by have:=HKa.out.size; simpa using this)
 clear hk2 hF hKW HKa K3
 go_wp2
 exact bodyPost_ret (v:=.tuple #[.agg #[.bool s,.slice ao nn cap],.int .i64 c]) (by simp [results,Tryz.results94,go_sem,hc]) rfl ⟨(HK.out.setCell (by simp; omega) _).setCell (by simp; omega) _,_,_,_,_,_,rfl,((HF.out.other (by simp) _).other (by simp) _).mono (by omega)⟩
theorem box_kept2 {w w1:World} {c0 c1 d0 d1:Value} {t u:TypeId} (h:Kept ((w.alloc (.cells #[c0,c1] t)).alloc (.cells #[d0,d1] u)) w1) :
  w1.cell? ⟨w.heap.size,0,none⟩ = some c0∧w1.cell? ⟨w.heap.size,1,none⟩ = some c1∧w1.cell? ⟨w.heap.size + 1,0,none⟩ = some d0∧w1.cell? ⟨w.heap.size + 1,1,none⟩ = some d1:=by
 refine ⟨?_,?_,?_,?_⟩ <;> (rw [h.cells _ _ (by simp <;> omega)]; simp)
end Go.Proofs.YtdcgdpbgnijnpaaGreat

namespace Go.Proofs.YtdcgdpbgnijnpaaGreat
open Go.RowKit
set_option maxHeartbeats 1000000 in
theorem mul_any (m n:Bool) (va vb:Value) (a b:List Nat) (w:World) (ha:Sl w va a) (hb:Sl w vb b) (hra:R m a) (hrb:R n b) :
  Calls Tryz.prog 93 #[.agg #[.bool m,va],.agg #[.bool n,vb]] w fun e w' => Kept w w'∧AnsIs w.heap.size w' e (M.int m a * M.int n b):=by
 obtain ⟨z,hz⟩:∃ z,z = M.int m a * M.int n b:=⟨_,rfl⟩
 rw [← hz]
 have HZ:Hid (z = M.int m a * M.int n b):=hz
 have HR:Hid (R m a∧R n b):=⟨hra,hrb⟩
 have hla:=hra.1
 have hlb:=hrb.1
 clear hz hra hrb
 have HA:Hid (Sl w va a):=ha
 have HB:Hid (Sl w vb b):=hb
 obtain ⟨bda,aoa,capa,rfl,_⟩:=ha
 obtain ⟨bdb,aob,capb,rfl,_⟩:=hb
 have K3:∀ x y t,Kept w (((w.alloc x).alloc y).alloc t):=fun x y t => (((Kept.refl w).alloc x).alloc y).alloc t
 by_cases hw:72 < a.length + b.length - 1
 ·
  have HW:Hid (M.W72≤z.natAbs):=by
   show M.W72≤z.natAbs
   rw [HZ.out,Int.natAbs_mul,M.natAbs_int,M.natAbs_int]
   exact M.mul_wide HR.out.1.tr HR.out.2.tr hw hla hlb
  go_enter Tryz.func93,Tryz.ntmps93
  go_wp2_with fail
  refine (wrong_no m n _ _ a b _ (HA.out.kept (K3 _ _ _)) (HB.out.kept (K3 _ _ _)) HR.out.1 HR.out.2).mono ?_
  rintro e w1 ⟨rfl,hk⟩
  have hc:=hk.cells
  have hf:=hk.frozens
  have HK1:Hid (Kept w w1):=(K3 _ _ _).trans hk
  clear hk
  go_wp2
  exact bodyPost_ret (v:=.tuple #[.agg #[.bool false,.slice none 0 0],.int .i64 13]) (by simp [results,Tryz.results93,go_sem,hc]) rfl ⟨(HK1.out.setCell (by simp; omega) _).setCell (by simp; omega) _,_,_,_,_,_,rfl,.inr ⟨rfl,rfl,rfl,HW.out⟩⟩
 ·
  go_enter Tryz.func93,Tryz.ntmps93
  go_wp2_with fail
  refine (wrong_no m n _ _ a b _ (HA.out.kept (K3 _ _ _)) (HB.out.kept (K3 _ _ _)) HR.out.1 HR.out.2).mono ?_
  rintro e w1 ⟨rfl,hk⟩
  have HK1:Hid (Kept w w1):=(K3 _ _ _).trans hk
  have HKa:Hid (Kept (((w.alloc (.cells #[.bool m,.slice aoa a.length capa] 37)).alloc (.cells #[.bool n,.slice aob b.length capb] 37)).alloc (.cells #[.bool false,.slice none 0 0] 37)) w1):=hk
  have hsz:=hk.size
  simp at hsz
  obtain ⟨hb0,hb1,hb2,hb3⟩:=box_kept2 (((Kept.refl _).alloc _).trans hk)
  clear hk
  have hw':(a.length:Int) + b.length - 1≤72:=by omega
  have hne:¬ (w.heap.size + 1 + 1 = w.heap.size):=by omega
  go_wp2_with fail
  go_region_held3 (fun w' => w'.cell? ⟨w.heap.size,0,none⟩ = some (.bool m)∧w'.cell? ⟨w.heap.size,1,none⟩ = some (.slice aoa a.length capa)∧w'.cell? ⟨w.heap.size + 1,0,none⟩ = some (.bool n)∧w'.cell? ⟨w.heap.size + 1,1,none⟩ = some (.slice aob b.length capb)) (go_keep) (first
   | (go_at_call 111; refine (product_any _ _ a b _ (HA.out.kept HK1.out.drew) (HB.out.kept HK1.out.drew) (by omega) (by omega)).mono ?_; rintro e w2 ⟨hk,v',l',rfl,hn,ht,hv,hl⟩; obtain ⟨hb4,hb5,hb6,hb7⟩:=box_kept2 ((((Kept.refl _).alloc _).trans HKa.out).drew.trans hk))
   | (go_at_call 110; refine (answer_any (m != n) v' l' _ hn ht (by omega)).mono ?_; rintro e w3 ⟨hk2,s,ao,nn,cap,c,rfl,hF⟩; obtain ⟨hb8,hb9,hba,hbb⟩:=box_kept2 ((((Kept.refl _).alloc _).trans HKa.out).drew.trans (hk.trans hk2)); have hc:=(HKa.out.drew.trans (hk.trans hk2)).cells; have hf2:=(HKa.out.drew.trans (hk.trans hk2)).frozens))
  have HK:Hid (Kept w w3):=(HK1.out.drew.trans hk).trans hk2
  have HF:Hid (Fin (w.heap.size + 1 + 1 + 1) w3 s (.slice ao nn cap) c z):=by
   show Fin _ _ _ _ _ _
   rw [M.int_mul hv,← HZ.out] at hF
   exact hF.mono (by simpa using hsz)
  clear hk hk2 hn ht hv hl hF K3 hb0 hb1 hb2 hb3 hb4 hb5 hb6 hb7 hb8 hb9 hba hbb HKa
  go_wp2
  exact bodyPost_ret (v:=.tuple #[.agg #[.bool s,.slice ao nn cap],.int .i64 c]) (by simp [results,Tryz.results93,go_sem,hc]) rfl ⟨(HK.out.setCell (by simp; omega) _).setCell (by simp; omega) _,_,_,_,_,_,rfl,((HF.out.other (by simp) _).other (by simp) _).mono (by omega)⟩
end Go.Proofs.YtdcgdpbgnijnpaaGreat

namespace Go.Proofs.YtdcgdpbgnijnpaaGreat
open Go.RowKit
def isgn (x y:Int):Int:=if x < y then -1 else if x = y then 0 else 1
end Go.Proofs.YtdcgdpbgnijnpaaGreat

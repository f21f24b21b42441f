/- Mul, of right whole numbers. -/
import Derived.Test.YtgofinhnlcbafaaGreatGad
import Derived.Test.YtgofinhnlcbafaaGreatProd
namespace Go.Proofs.YtgofinhnlcbafaaGreat
open Go.RowKit
set_option maxHeartbeats 1000000 in
theorem mul_any (m n:Bool) (va vb:Value) (a b:List Nat) (w:World) (ha:Sl w va a) (hb:Sl w vb b) (hra:R m a) (hrb:R n b) :
  Calls Tryz.prog 114 #[.agg #[.bool m,va],.agg #[.bool n,vb]] w fun e w' => Kept w w'∧AnsIs w.heap.size w' e (M.int m a * M.int n b):=by
 obtain ⟨z,hz⟩:∃ z,z = M.int m a * M.int n b:=⟨_,rfl⟩
 rw [← hz]
 have HZ:Hid (z = M.int m a * M.int n b):=hz
 have HR:Hid (R m a∧R n b):=⟨hra,hrb⟩
 have hla:=hra.1
 have hlb:=hrb.1
 clear hz hra hrb
 have HA:Hid (Sl w va a):=ha
 have HB:Hid (Sl w vb b):=hb
 obtain ⟨bda,aoa,capa,rfl,_⟩:=ha
 obtain ⟨bdb,aob,capb,rfl,_⟩:=hb
 have K3:∀ x y t,Kept w (((w.alloc x).alloc y).alloc t):=fun x y t => (((Kept.refl w).alloc x).alloc y).alloc t
 by_cases hw:72 < a.length + b.length - 1
 ·
  have HW:Hid (M.W72≤z.natAbs):=by
   show M.W72≤z.natAbs
   rw [HZ.out,Int.natAbs_mul,M.natAbs_int,M.natAbs_int]
   exact M.mul_wide HR.out.1.tr HR.out.2.tr hw hla hlb
  go_enter Tryz.func114,Tryz.ntmps114
  go_wp2_with fail
  refine (wrong_no m n _ _ a b _ (HA.out.kept (K3 _ _ _)) (HB.out.kept (K3 _ _ _)) HR.out.1 HR.out.2).mono ?_
  rintro e w1 ⟨rfl,hk⟩
  have hc:=hk.cells
  have hf:=hk.frozens
  have HK1:Hid (Kept w w1):=(K3 _ _ _).trans hk
  clear hk
  go_wp2
  exact bodyPost_ret (v:=.tuple #[.agg #[.bool false,.slice none 0 0],.int .i64 13]) (by simp [results,Tryz.results114,go_sem,hc]) rfl ⟨(HK1.out.setCell (by simp; omega) _).setCell (by simp; omega) _,_,_,_,_,_,rfl,.inr ⟨rfl,rfl,rfl,HW.out⟩⟩
 ·
  go_enter Tryz.func114,Tryz.ntmps114
  go_wp2_with fail
  refine (wrong_no m n _ _ a b _ (HA.out.kept (K3 _ _ _)) (HB.out.kept (K3 _ _ _)) HR.out.1 HR.out.2).mono ?_
  rintro e w1 ⟨rfl,hk⟩
  have HK1:Hid (Kept w w1):=(K3 _ _ _).trans hk
  have HKa:Hid (Kept (((w.alloc (.cells #[.bool m,.slice aoa a.length capa] 66)).alloc (.cells #[.bool n,.slice aob b.length capb] 66)).alloc (.cells #[.bool false,.slice none 0 0] 66)) w1):=hk
  have hsz:=hk.size
  simp at hsz
  obtain ⟨hb0,hb1,hb2,hb3⟩:=box_kept2 (((Kept.refl _).alloc _).trans hk)
  clear hk
  have hw':(a.length:Int) + b.length - 1≤72:=by omega
  have hne:¬ (w.heap.size + 1 + 1 = w.heap.size):=by omega
  go_wp2_with fail
  go_region_held3 (fun w' => w'.cell? ⟨w.heap.size,0,none⟩ = some (.bool m)∧w'.cell? ⟨w.heap.size,1,none⟩ = some (.slice aoa a.length capa)∧w'.cell? ⟨w.heap.size + 1,0,none⟩ = some (.bool n)∧w'.cell? ⟨w.heap.size + 1,1,none⟩ = some (.slice aob b.length capb)) (go_keep) (first
   | (go_at_call 125; refine (product_any _ _ a b _ (HA.out.kept HK1.out.drew) (HB.out.kept HK1.out.drew) (by omega) (by omega)).mono ?_; rintro e w2 ⟨hk,v',l',rfl,hn,ht,hv,hl⟩; obtain ⟨hb4,hb5,hb6,hb7⟩:=box_kept2 ((((Kept.refl _).alloc _).trans HKa.out).drew.trans hk))
   | (go_at_call 124; refine (answer_any (m != n) v' l' _ hn ht (by omega)).mono ?_; rintro e w3 ⟨hk2,s,ao,nn,cap,c,rfl,hF⟩; obtain ⟨hb8,hb9,hba,hbb⟩:=box_kept2 ((((Kept.refl _).alloc _).trans HKa.out).drew.trans (hk.trans hk2)); have hc:=(HKa.out.drew.trans (hk.trans hk2)).cells; have hf2:=(HKa.out.drew.trans (hk.trans hk2)).frozens))
  have HK:Hid (Kept w w3):=(HK1.out.drew.trans hk).trans hk2
  have HF:Hid (Fin (w.heap.size + 1 + 1 + 1) w3 s (.slice ao nn cap) c z):=by
   show Fin _ _ _ _ _ _
   rw [M.int_mul hv,← HZ.out] at hF
   exact hF.mono (by simpa using hsz)
  clear hk hk2 hn ht hv hl hF K3 hb0 hb1 hb2 hb3 hb4 hb5 hb6 hb7 hb8 hb9 hba hbb HKa
  go_wp2
  exact bodyPost_ret (v:=.tuple #[.agg #[.bool s,.slice ao nn cap],.int .i64 c]) (by simp [results,Tryz.results114,go_sem,hc]) rfl ⟨(HK.out.setCell (by simp; omega) _).setCell (by simp; omega) _,_,_,_,_,_,rfl,((HF.out.other (by simp) _).other (by simp) _).mono (by omega)⟩
end Go.Proofs.YtgofinhnlcbafaaGreat

/- divide by one limb; QuoRem, out of what divide does. What the statements' walks have in common. putBack, takeTimes of limb: sums and differences in place, in a window of a row. takeTimes of limb: a multiple taken off a window of a row, in place. guessLimb of limb: a quotient's limb, guessed by the top limbs. takeLimb of limb: one limb of a quotient. takeLimb of limb: one limb of a quotient: the walk. shiftLeft of limb. toWord of limb. Int64, Fits of limb; Text of a number that isn't right. -/
import Derived.Test.YtdcgdpbgnijnpaaGreatGae
import Derived.Test.YtdcgdpbgnijnpaaGreatGac
import Derived.Test.YtdcgdpbgnijnpaaGreatGaf
namespace Go.Proofs.YtdcgdpbgnijnpaaGreat
open Go.RowKit
def DivIs (B:Nat) (w':World) (e:Ending) (a b:List Nat):Prop :=
 ∃ vq q vr r,e = .returned (.tuple #[vq,vr])∧New B w' vq q∧New B w' vr r∧M.Tr q∧M.Tr r∧q.length≤a.length∧M.val a = M.val q * M.val b + M.val r∧M.val r < M.val b
theorem New.grown {B b:Nat} {w w':World} {v:Value} {l:List Nat} (h:New B w v l) (hg:w.grownBy w' (some b)) (hne:∀ o n c,v = .slice (some ⟨b,o,none⟩) n c→False):New B w' v l:=by
 obtain ⟨hb,⟨rfl,rfl⟩ | ⟨b',N,f,rfl,hB,hN,hr,hf⟩⟩:=h
 ·
  exact ⟨hb,.inl ⟨rfl,rfl⟩⟩
 ·
  exact ⟨hb,.inr ⟨b',N,f,rfl,hB,hN,hr.of_block (hg.block b' hr.lt (by intro e; cases e; exact hne _ _ _ rfl)),hf⟩⟩
set_option maxHeartbeats 1000000 in
theorem divide_small (va vb:Value) (a b:List Nat) (w:World) (ha:Sl w va a) (hb:Sl w vb b) (hla:a.length≤1000) (ta:M.Tr a) (tb:M.Tr b) (h1:b.length = 1) (hle:M.val b≤M.val a) :
  Calls Tryz.prog 123 #[va,vb] w fun e w' => Kept w w'∧DivIs w.heap.size w' e a b:=by
 have HT:Hid (M.Tr a∧M.Tr b):=⟨ta,tb⟩
 have HLE:Hid (M.val b≤M.val a):=hle
 have HA:Hid (Sl w va a):=ha
 have HB:Hid (Sl w vb b):=hb
 obtain ⟨d,rfl⟩:∃ d,b = [d]:=by
  match b,h1 with
  | [d],_ => exact ⟨d,rfl⟩
 have hd0:0 < d:=by
  rcases tb with h | h
  ·
   simp at h
  ·
   simp at h; omega
 have hd1:d < 4294967296:=hb.1 d (by simp)
 have ha0:0 < a.length:=by
  rcases Nat.eq_zero_or_pos a.length with h | h
  ·
   rw [List.length_eq_zero_iff.1 h] at hle; simp [M.val] at hle; omega
  ·
   exact h
 obtain ⟨bdb,aob,capb,rfl,hxb⟩:=hb
 obtain ⟨_,bb,ob,rfl,hbb,hcb⟩:=hxb (by simp)
 have hcb:=hcb 0 (by simp)
 simp at hcb
 obtain ⟨bda,aoa,capa,rfl,_⟩:=ha
 clear hxb ta tb hle h1
 go_enter Tryz.func123,Tryz.ntmps123
 go_wp2_with fail
 refine (compare_any _ _ a [d] _ HA.out HB.out hla (by simp) HT.out.1 HT.out.2).mono ?_
 rintro e w0 ⟨rfl,nq,rfl⟩
 have hs:0≤sgn (M.val a) (M.val [d]):=by unfold sgn; have:=HLE.out; split; omega; split <;> omega
 generalize sgn (M.val a) (M.val [d]) = sg at *
 go_wp2_with fail
 refine (dup_some _ (HA.out.kept ((Kept.refl w).drewN nq)) ha0 (by omega)).mono ?_
 rintro e w1 ⟨hk1,v1,rfl,hn1⟩
 obtain ⟨b1,N1,f1,rfl,hB1,hN1,hr1,hf1⟩:∃ (b N:Nat) (f:Nat→Value),v1 = .slice (some ⟨b,0,none⟩) a.length N∧(w.drewN nq).heap.size≤b∧a.length≤N∧w1.rowIs b 40 N f∧∀ j,j < a.length→f j = .int .u32 ((a.getD j 0:Nat):Int):=by
  obtain ⟨_,⟨_,h⟩ | h⟩:=hn1
  ·
   rw [h] at ha0; simp at ha0
  ·
   exact h
 have hcb1:w1.cell? ⟨bb,ob,none⟩ = some (.int .u32 (d:Int)):=(hk1.cell (p:=⟨bb,ob,none⟩) hbb).trans hcb
 have HK1:Hid (Kept w w1):=((Kept.refl w).drewN nq).trans hk1
 clear hk1 hn1 hcb
 go_wp2_with fail
 refine (small_any b1 N1 f1 a d w1 bda hd0 hd1 (by omega) hN1 hr1 hf1).mono ?_
 rintro e w2 ⟨hg2,q,r,rfl,hnq,hql,hqv,hrd⟩
 have HK2:Hid (Kept w w2):=Below.grown HK1.out hg2 HK1.out.size (fun k hk => by cases hk; exact hB1)
 have HQ:Hid (q.length = a.length∧M.val a = d * M.val q + r):=⟨hql,hqv⟩
 have HNQ:Hid (New w.heap.size w2 (.slice (some ⟨b1,0,none⟩) a.length N1) q):=hnq.mono hB1
 clear hg2 hnq hqv hr1 hf1 hcb1
 go_wp2_with fail
 refine (trim_new _ HNQ.out (by omega)).mono ?_
 rintro e w3 ⟨rfl,vq,q',rfl,hnq',htq,hvq,hlq⟩
 have HQ':Hid (New w.heap.size w3 vq q'∧M.Tr q'∧M.val q' = M.val q∧q'.length≤q.length):=⟨hnq',htq,hvq,hlq⟩
 clear hnq' htq hvq hlq
 go_wp2_with fail
 refine (fromWord_any r w3 (by omega)).mono ?_
 rintro e w4 ⟨hk4,vr,r',rfl,hnr,htr,hvr,hlr⟩
 have HR:Hid (Kept w w4∧New w.heap.size w4 vq q'∧New w.heap.size w4 vr r'∧M.Tr r'∧M.val r' = r):=⟨HK2.out.trans hk4,HQ'.out.1.kept hk4,hnr.mono HK2.out.size,htr,hvr⟩
 clear hk4 hnr htr hvr hlr
 go_wp2
 go_ret2
 refine ⟨HR.out.1,vq,q',vr,r',rfl,HR.out.2.1,HR.out.2.2.1,HQ'.out.2.1,HR.out.2.2.2.1,by have:=HQ'.out.2.2.2; have:=HQ.out.1; omega,?_,?_⟩
 ·
  rw [HR.out.2.2.2.2,HQ'.out.2.2.1,HQ.out.2,Nat.mul_comm d]; simp [M.val]
 ·
  rw [HR.out.2.2.2.2]; simpa [M.val] using hrd
def QuoIs (B:Nat) (w':World) (e:Ending) (m n:Bool) (a b:List Nat):Prop :=
 ∃ s aq nq cq q t ar nr cr r,e = .returned (.tuple #[.agg #[.bool s,.slice aq nq cq],.agg #[.bool t,.slice ar nr cr],.int .i64 0])∧New B w' (.slice aq nq cq) q∧New B w' (.slice ar nr cr) r∧M.Right s q∧M.Right t r ∧
  M.val a = M.val q * M.val b + M.val r∧M.val r < M.val b∧M.int s q = M.int (m != n) q∧M.int t r = M.int m r
theorem right_signed {neg:Bool} {l:List Nat} (hb:M.Bd l) (ht:M.Tr l) (hl:l.length≤72):M.Right (neg && decide (0 < l.length)) l∧M.int (neg && decide (0 < l.length)) l = M.int neg l:=by
 by_cases h0:0 < l.length
 ·
  simp only [h0,decide_true,Bool.and_true]
  exact ⟨⟨hb,ht,hl,fun e => by rw [e] at h0; simp at h0⟩,trivial⟩
 ·
  have:l = []:=List.length_eq_zero_iff.1 (by omega)
  subst this
  exact ⟨⟨hb,ht,hl,fun _ => by simp⟩,by cases neg <;> simp [M.int,M.val]⟩
set_option maxHeartbeats 2000000 in
theorem quoRem_of (m n:Bool) (va vb:Value) (a b:List Nat) (w:World) (ha:Sl w va a) (hb:Sl w vb b) (hra:R m a) (hrb:R n b) (hb0:0 < b.length)
  (hdiv:∀ W,Kept w W→Calls Tryz.prog 123 #[va,vb] W fun e w' => Kept W w'∧DivIs W.heap.size w' e a b) :
  Calls Tryz.prog 113 #[.agg #[.bool m,va],.agg #[.bool n,vb]] w fun e w' => Kept w w'∧QuoIs w.heap.size w' e m n a b:=by
 have HR:Hid (R m a∧R n b):=⟨hra,hrb⟩
 have hla:=hra.1
 have hlb:=hrb.1
 have HA:Hid (Sl w va a):=ha
 have HB:Hid (Sl w vb b):=hb
 have HD:Hid (∀ W,Kept w W→Calls Tryz.prog 123 #[va,vb] W fun e w' => Kept W w'∧DivIs W.heap.size w' e a b):=hdiv
 clear hra hrb hdiv
 obtain ⟨_,aoa,capa,rfl,_⟩:=ha
 obtain ⟨_,aob,capb,rfl,_⟩:=hb
 have K4:∀ x y t u,Kept w ((((w.alloc x).alloc y).alloc t).alloc u):=fun x y t u => ((((Kept.refl w).alloc x).alloc y).alloc t).alloc u
 go_enter Tryz.func113,Tryz.ntmps113
 go_wp2_with fail
 refine (wrong_no m n _ _ a b _ (HA.out.kept (K4 _ _ _ _)) (HB.out.kept (K4 _ _ _ _)) HR.out.1 HR.out.2).mono ?_
 rintro e w1 ⟨rfl,hk⟩
 have hc:=hk.cells
 have HK1:Hid (Kept w w1):=(K4 _ _ _ _).trans hk
 have HKa:Hid (Kept ((((w.alloc (.cells #[.bool m,.slice aoa a.length capa] 37)).alloc (.cells #[.bool n,.slice aob b.length capb] 37)).alloc (.cells #[.bool false,.slice none 0 0] 37)).alloc (.cells #[.bool false,.slice none 0 0] 37)) w1):=hk
 clear hk K4
 go_wp2_with fail
 refine (HD.out _ HK1.out).mono ?_
 rintro e w2 ⟨hk2,vq,q,vr,r,rfl,hnq,hnr,htq,htr,hlq,hval,hlt⟩
 clear hc HD
 obtain ⟨aq,cq,rfl⟩:=hnq.shape
 obtain ⟨ar,cr,rfl⟩:=hnr.shape
 have hKW:=HKa.out.trans hk2
 have HKb:Hid (Kept ((((w.alloc (.cells #[.bool m,.slice aoa a.length capa] 37)).alloc (.cells #[.bool n,.slice aob b.length capb] 37)).alloc (.cells #[.bool false,.slice none 0 0] 37)).alloc (.cells #[.bool false,.slice none 0 0] 37)) w2):=hKW
 obtain ⟨hb0',hb1,hb2,hb3⟩:=box_kept2 ((((Kept.refl _).alloc _).alloc _).trans hKW)
 have HK2:Hid (Kept w w2):=HK1.out.trans hk2
 have hlr:r.length≤72:=by have:=M.len_le_of_val_le htr HB.out.bd (Nat.le_of_lt hlt); omega
 have hlq':q.length≤72:=by omega
 have HQ:Hid (New w1.heap.size w2 (.slice aq q.length cq) q∧New w1.heap.size w2 (.slice ar r.length cr) r∧M.Tr q∧M.Tr r∧M.val a = M.val q * M.val b + M.val r∧M.val r < M.val b):=⟨hnq,hnr,htq,htr,hval,hlt⟩
 have HS:Hid (w.heap.size + 1 + 1 + 1 + 1≤w1.heap.size):=by
  show _≤_
  have:=HKa.out.size
  simpa using this
 clear hk2 hnq hnr htq htr hlq hval hlt hKW HKa HA HB
 have hne1:¬ (w.heap.size + 1 + 1 = w.heap.size):=by omega
 have hne2:¬ (w.heap.size + 1 + 1 + 1 = w.heap.size):=by omega
 have hne3:¬ (w.heap.size + 1 + 1 + 1 = w.heap.size + 1):=by omega
 go_wp2_with fail
 go_region_held3 (fun w' => w'.cell? ⟨w.heap.size,0,none⟩ = some (.bool m)∧w'.cell? ⟨w.heap.size,1,none⟩ = some (.slice aoa a.length capa)∧w'.cell? ⟨w.heap.size + 1,0,none⟩ = some (.bool n)∧w'.cell? ⟨w.heap.size + 1,1,none⟩ = some (.slice aob b.length capb)) (go_keep) (first
  | (go_at_call_of 119 (Value.slice aq q.length cq); refine (signed_any (m != n) aq q.length cq _ (by omega)).mono ?_; rintro e w3 ⟨rfl,hk3⟩; obtain ⟨hb4,hb5,hb6,hb7⟩:=box_kept2 ((((Kept.refl _).alloc _).alloc _).trans (HKb.out.drew.trans hk3)))
  | (go_at_call_of 119 (Value.slice ar r.length cr); refine (signed_any m ar r.length cr _ (by omega)).mono ?_; rintro e w4 ⟨rfl,hk4⟩; obtain ⟨hb8,hb9,hba,hbb⟩:=box_kept2 ((((Kept.refl _).alloc _).alloc _).trans ((HKb.out.drew.trans hk3).trans hk4)); have hc:=((HKb.out.drew.trans hk3).trans hk4).cells; have hf:=((HKb.out.drew.trans hk3).trans hk4).frozens))
 have HF:Hid (Kept w w4∧New (w.heap.size + 1 + 1 + 1 + 1) w4 (.slice aq q.length cq) q∧New (w.heap.size + 1 + 1 + 1 + 1) w4 (.slice ar r.length cr) r) :=
  ⟨((HK2.out.drew.trans hk3).trans hk4),((HQ.out.1.kept ((Kept.refl w2).drew.trans hk3)).kept hk4).mono HS.out,((HQ.out.2.1.kept ((Kept.refl w2).drew.trans hk3)).kept hk4).mono HS.out⟩
 clear hk3 hk4 hb0' hb1 hb2 hb3 hb4 hb5 hb6 hb7 hb8 hb9 hba hbb
 have hs1:=right_signed (neg:=(m != n)) HQ.out.1.1 HQ.out.2.2.1 hlq'
 have hs2:=right_signed (neg:=m) HQ.out.2.1.1 HQ.out.2.2.2.1 hlr
 generalize (m != n && decide (0 < q.length)) = s1 at *
 generalize (m && decide (0 < r.length)) = s2 at *
 have HS1:Hid (M.Right s1 q∧M.int s1 q = M.int (m != n) q):=hs1
 have HS2:Hid (M.Right s2 r∧M.int s2 r = M.int m r):=hs2
 clear hs1 hs2
 go_wp2
 exact bodyPost_ret (v:=.tuple #[.agg #[.bool s1,.slice aq q.length cq],.agg #[.bool s2,.slice ar r.length cr],.int .i64 0]) (by simp [results,Tryz.results113,go_sem,hc]) rfl
  ⟨(((HF.out.1.setCell (by simp; omega) _).setCell (by simp; omega) _).setCell (by simp; omega) _).setCell (by simp; omega) _,s1,_,_,_,q,s2,_,_,_,r,rfl,
   ((((HF.out.2.1.other (by simp) _).other (by simp) _).other (by simp) _).other (by simp) _).mono (by omega),
   ((((HF.out.2.2.other (by simp) _).other (by simp) _).other (by simp) _).other (by simp) _).mono (by omega),HS1.out.1,HS2.out.1,HQ.out.2.2.2.2.1,HQ.out.2.2.2.2.2,HS1.out.2,HS2.out.2⟩
end Go.Proofs.YtdcgdpbgnijnpaaGreat

namespace Go.Proofs.YtdcgdpbgnijnpaaGreat
open Go.RowKit
theorem Sl.len {w:World} {ao:Option Addr} {n cap:Nat} {l:List Nat} (h:Sl w (.slice ao n cap) l):n = l.length:=by
 obtain ⟨_,ao',cap',he,_⟩:=h
 simp only [Value.slice.injEq] at he
 exact he.2.1
theorem box_kept3 {w w1:World} {c0 c1 d0 d1 e0 e1:Value} {t u x:TypeId} (h:Kept (((w.alloc (.cells #[c0,c1] t)).alloc (.cells #[d0,d1] u)).alloc (.cells #[e0,e1] x)) w1) :
  w1.cell? ⟨w.heap.size,0,none⟩ = some c0∧w1.cell? ⟨w.heap.size,1,none⟩ = some c1∧w1.cell? ⟨w.heap.size + 1,0,none⟩ = some d0∧w1.cell? ⟨w.heap.size + 1,1,none⟩ = some d1∧w1.cell? ⟨w.heap.size + 1 + 1,0,none⟩ = some e0∧w1.cell? ⟨w.heap.size + 1 + 1,1,none⟩ = some e1:=by
 obtain ⟨h1,h2,h3,h4⟩:=box_kept2 (((Kept.refl _).alloc _).trans h)
 refine ⟨h1,h2,h3,h4,?_,?_⟩ <;> (rw [h.cells _ _ (by simp),World.cell?_alloc_at _ _ _ _ (by simp)]; rfl)
end Go.Proofs.YtdcgdpbgnijnpaaGreat

namespace Go.Proofs.YtdcgdpbgnijnpaaGreat
open Go.RowKit
structure Win (w:World) (b N i:Nat) (f:Nat→Value) (q:List Nat):Prop where
 row:w.rowIs b 40 N f
 at_:∀ j,j < q.length→f (i + j) = .int .u32 ((q.getD j 0:Nat):Int)
 len:i + q.length≤N
 bd:M.Bd q
theorem sl_grown {w w':World} {bd od n cap b:Nat} {d:List Nat} (h:Sl w (.slice (some ⟨bd,od,none⟩) n cap) d) (hg:w.grownBy w' (some b)) (hne:bd ≠ b):Sl w' (.slice (some ⟨bd,od,none⟩) n cap) d:=by
 obtain ⟨hb,ao,cap',hv,hx⟩:=h
 simp only [Value.slice.injEq] at hv
 obtain ⟨rfl,rfl,rfl⟩:=hv
 refine ⟨hb,_,cap,rfl,fun h0 => ?_⟩
 obtain ⟨h1,b',off',e,hlt,hc⟩:=hx h0
 simp only [Option.some.injEq,Addr.mk.injEq] at e
 obtain ⟨rfl,rfl,_⟩:=e
 refine ⟨h1,bd,od,rfl,Nat.lt_of_lt_of_le hlt hg.size,fun j hj => ?_⟩
 have hb2:=hg.block bd hlt (fun e => hne (Option.some.inj e))
 rw [World.cell?_of_block (w:=w) (a:=⟨bd,od + j,none⟩) hb2]
 exact hc j hj
theorem grown_drewN {w w':World} {r:Option Nat} (h:w.grownBy w' r) (n:Nat):w.grownBy (w'.drewN n) r:=⟨h.os,h.tape,h.output,h.size,h.block⟩
theorem Win.drewN {w:World} {b N i:Nat} {f:Nat→Value} {q:List Nat} (h:Win w b N i f q) (n:Nat):Win (w.drewN n) b N i f q:=⟨h.row,h.at_,h.len,h.bd⟩
theorem Win.set {w:World} {b N i k v:Nat} {f:Nat→Value} {q:List Nat} (h:Win w b N i f q) (hk:k < q.length) (hv:v < 4294967296) (y:Int) (hy:y = v):Win (w.setCell ⟨b,i + k,none⟩ (.int .u32 y)) b N i (fun j => if j = i + k then .int .u32 y else f j) (q.set k v):=by
 refine ⟨h.row.set _ _,fun j hj => ?_,by rw [List.length_set]; exact h.len,Bd_set h.bd _ _ hv⟩
 rw [List.length_set] at hj
 rw [getD_set _ _ _ _ hk]
 by_cases e:j = k
 ·
  rw [if_pos (by omega),if_pos e,hy]
 ·
  rw [if_neg (by omega),if_neg e]; exact h.at_ j hj
theorem back_step {q o d:List Nat} {k c x y s:Nat} (hk:k < q.length) (hol:o.length = q.length) (hx:x = q.getD k 0) (hy:y = d.getD k 0) (hs:s = c + (x + y))
  (h:M.val (o.take k) + 4294967296 ^ k * c = M.val (q.take k) + M.val (d.take k)) :
  M.val ((o.set k (s % 4294967296)).take (k + 1)) + 4294967296 ^ (k + 1) * (s / 4294967296) = M.val (q.take (k + 1)) + M.val (d.take (k + 1)):=by
 rw [M.take_succ_getD,M.take_succ_getD,M.take_succ_getD,getD_set _ _ _ _ (by omega),if_pos rfl,List.take_set_of_le (by omega),← hx,← hy,Nat.pow_succ,Nat.mul_assoc]
 have e:=Nat.div_add_mod s 4294967296
 have e2:4294967296 ^ k * (s % 4294967296) + 4294967296 ^ k * (4294967296 * (s / 4294967296)) = 4294967296 ^ k * s:=by rw [← Nat.mul_add]; congr 1; omega
 rw [hs,Nat.mul_add,Nat.mul_add] at e2
 rw [hs] at *
 omega
set_option maxRecDepth 100000 in
set_option maxHeartbeats 2000000 in
theorem putBack_any (b N i cap:Nat) (f:Nat→Value) (q d:List Nat) (bd od capd:Nat) (w:World) (hw:Win w b N i f q) (hd:Sl w (.slice (some ⟨bd,od,none⟩) d.length capd) d) (hne:bd ≠ b) (hl:q.length≤1000) (hdl:d.length≤q.length) :
  Calls Tryz.prog 152 #[.slice (some ⟨b,i,none⟩) q.length cap,.slice (some ⟨bd,od,none⟩) d.length capd] w fun e w' => w.grownBy w' (some b)∧e = .returned (.tuple #[])∧∃ f' q' c,Win w' b N i f' q'∧q'.length = q.length∧(∀ j,j < i ∨ i + q.length≤j→f' j = f j)∧M.val q' + 4294967296 ^ q.length * c = M.val q + M.val d:=by
 have HW:Hid (Win w b N i f q):=hw
 have HD:Hid (Sl w (.slice (some ⟨bd,od,none⟩) d.length capd) d):=hd
 have bdq:=hw.bd
 have bdd:=hd.bd
 have hbd1000:d.length≤1000000:=by omega
 clear hw hd
 go_enter Tryz.func152,Tryz.ntmps152
 go_wp2
 go_loopw [4,8] (fun vc vi wr => ∃ (k c:Nat) (o:List Nat),k≤q.length∧c≤1∧vi = .int .i64 (k:Int)∧vc = .int .u64 (c:Int)∧Hid (o.length = q.length∧(∀ j,k≤j→o.getD j 0 = q.getD j 0)∧M.val (o.take k) + 4294967296 ^ k * c = M.val (q.take k) + M.val (d.take k)) ∧
   Hid (∃ g,Win wr b N i g o∧∀ j,j < i ∨ i + q.length≤j→g j = f j)∧Hid (w.grownBy wr (some b))) (fun _ vi _ => q.length - (intOf vi).toNat)
 case atStart => exact ⟨0,0,q,by omega,by omega,rfl,rfl,⟨rfl,fun _ _ => rfl,by simp [M.val]⟩,⟨f,HW.out,fun _ _ => rfl⟩,World.grownBy.refl _ _⟩
 case round =>
  obtain ⟨k,c,o,hk,hc,rfl,rfl,ho,hwin,hgr⟩:=hrel
  obtain ⟨g,hg1,hg2⟩:=hwin.out
  by_cases hlt:k < q.length
  ·
   have hck:wr.cell? ⟨b,i + k,none⟩ = some (.int .u32 ((q.getD k 0:Nat):Int)):=by
    rw [hg1.row.cell (by have:=hg1.len; rw [ho.out.1] at this; omega),hg1.at_ k (by rw [ho.out.1]; exact hlt),ho.out.2.1 k (Nat.le_refl _)]
   have hfz:wr.frozen? ⟨b,i + k,none⟩ = false:=hg1.row.frozen _
   have hxb:=bdq.getD k
   have hyb:=bdd.getD k
   have hcall:∀ n,Calls Tryz.prog 135 #[.slice (some ⟨bd,od,none⟩) d.length capd,.int .i64 k] (wr.drewN n) fun e w' => e = .returned (.int .u64 ((d.getD k 0:Nat):Int))∧w' = wr.drewN n:=fun n => by
    have h:=limbAt_any (wr.drewN n) (sl_grown HD.out (grown_drewN hgr.out n) hne) (k:Int) (by omega) (by omega)
    rwa [Int.toNat_natCast] at h
   obtain ⟨x,hx⟩:∃ x,x = q.getD k 0:=⟨_,rfl⟩
   obtain ⟨y,hy⟩:∃ y,y = d.getD k 0:=⟨_,rfl⟩
   rw [← hx] at hck hxb
   rw [← hy] at hyb
   have HC:Hid (∀ n,Calls Tryz.prog 135 #[.slice (some ⟨bd,od,none⟩) d.length capd,.int .i64 k] (wr.drewN n) fun e w' => e = .returned (.int .u64 (y:Int))∧w' = wr.drewN n):=by rw [hy]; exact hcall
   have HXY:Hid (x = q.getD k 0∧y = d.getD k 0):=⟨hx,hy⟩
   clear hx hy hcall hg1 hg2
   go_wp2
   go_quiet ((go_at_call 135; exact Calls.quiet_of_same (HC.out _)))
   go_wp2
   go_roundw
   case rel =>
    obtain ⟨g,hg1,hg2⟩:=hwin.out
    have hol:=ho.out.1
    refine ⟨k + 1,(c + (x + y)) / 4294967296,o.set k ((c + (x + y)) % 4294967296),by omega,by omega,by go_num,by simp,⟨by rw [List.length_set]; exact hol,fun j hj => ?_,back_step hlt hol HXY.out.1 HXY.out.2 rfl ho.out.2.2⟩,⟨_,(hg1.drewN nq).set (by omega) (Nat.mod_lt _ (by decide)) _ (by simp),fun j hj => ?_⟩,grown_set (grown_drewN hgr.out nq) _ _⟩
    ·
     rw [getD_set _ _ _ _ (by omega),if_neg (by omega)]; exact ho.out.2.1 j (by omega)
    ·
     rw [if_neg (by omega)]; exact hg2 j hj
   case measure => simp [intOf]; omega
  ·
   obtain rfl:k = q.length:=by omega
   have HV:Hid (M.val o + 4294967296 ^ q.length * c = M.val q + M.val d):=by
    have h9:=ho.out.2.2
    rw [List.take_of_length_le (by rw [ho.out.1]; exact Nat.le_refl _),List.take_length,List.take_of_length_le (by omega)] at h9
    exact h9
   clear hg1 hg2
   go_wp2
   obtain ⟨g,hg1,hg2⟩:=hwin.out
   exact bodyPost_end (v:=.tuple #[]) (by simp [results,Tryz.results152,go_sem]) rfl ⟨hgr.out,rfl,g,o,c,hg1,ho.out.1,hg2,HV.out⟩
end Go.Proofs.YtdcgdpbgnijnpaaGreat

namespace Go.Proofs.YtdcgdpbgnijnpaaGreat
open Go.RowKit
theorem and_low (s:Nat) (h:s < 18446744073709551616):bits .and .u64 (s:Int) 4294967295 = ((s % 4294967296:Nat):Int):=by
 have h1:=bits_and_u64_nat s 4294967295 h (by omega)
 have h2:=Nat.and_two_pow_sub_one_eq_mod s 32
 rw [show (2:Nat) ^ 32 = 4294967296 from rfl,show 4294967296 - 1 = 4294967295 from rfl] at h2
 rw [h2] at h1
 exact h1
theorem take_step {q o d:List Nat} {k c bw x y t s v bw':Nat} (hk:k < q.length) (hol:o.length = q.length) (hx:x = q.getD k 0) (hy:y = d.getD k 0) (hs:s = c + y * t) (hv:x + 4294967296 * bw' = v + s % 4294967296 + bw)
  (h:M.val (q.take k) + 4294967296 ^ k * (bw + c) = M.val (o.take k) + t * M.val (d.take k)) :
  M.val (q.take (k + 1)) + 4294967296 ^ (k + 1) * (bw' + s / 4294967296) = M.val ((o.set k v).take (k + 1)) + t * M.val (d.take (k + 1)):=by
 rw [M.take_succ_getD,M.take_succ_getD,M.take_succ_getD,getD_set _ _ _ _ (by omega),if_pos rfl,List.take_set_of_le (by omega),← hx,← hy,Nat.pow_succ,Nat.mul_add t]
 have e:=Nat.div_add_mod s 4294967296
 generalize 4294967296 ^ k = P at *
 have e1:P * x + P * 4294967296 * (bw' + s / 4294967296) = P * (v + bw + s):=by
  rw [Nat.mul_assoc,← Nat.mul_add]; congr 1; omega
 have e2:P * (v + bw + s) = P * v + P * (bw + c) + t * (P * y):=by
  rw [hs,show v + bw + (c + y * t) = v + (bw + c) + y * t by omega,Nat.mul_add,Nat.mul_add,Nat.mul_comm y t,Nat.mul_left_comm]
 omega
theorem borrow_fact (x low bw:Nat) (hx:x < 4294967296) (hlow:low < 4294967296) (hbw:bw≤1):∃ v bw':Nat,v < 4294967296∧bw'≤1∧x + 4294967296 * bw' = v + low + bw∧IntKind.u64.wrap (IntKind.u64.wrap ((x:Int) - (low:Int)) - (bw:Int)) / 9223372036854775808 = (bw':Int)∧IntKind.u64.wrap (IntKind.u64.wrap ((x:Int) - (low:Int)) - (bw:Int)) % 4294967296 = (v:Int):=by
 by_cases h:low + bw≤x
 ·
  exact ⟨x - low - bw,0,by omega,by omega,by omega,by simp only [IntKind.wrap_u64]; omega,by simp only [IntKind.wrap_u64]; omega⟩
 ·
  exact ⟨x + 4294967296 - low - bw,1,by omega,by omega,by omega,by simp only [IntKind.wrap_u64]; omega,by simp only [IntKind.wrap_u64]; omega⟩
set_option maxRecDepth 100000 in
set_option maxHeartbeats 4000000 in
theorem takeTimes_any (b N i cap:Nat) (f:Nat→Value) (q d:List Nat) (t:Nat) (bd od capd:Nat) (w:World) (hw:Win w b N i f q) (hd:Sl w (.slice (some ⟨bd,od,none⟩) d.length capd) d) (hne:bd ≠ b) (hl:q.length≤1000) (hdl:d.length < q.length) (ht:t < 4294967296) :
  Calls Tryz.prog 151 #[.slice (some ⟨b,i,none⟩) q.length cap,.slice (some ⟨bd,od,none⟩) d.length capd,.int .u32 (t:Int)] w fun e w' => w.grownBy w' (some b)∧∃ (bw:Nat) (f':Nat→Value) (q':List Nat),bw≤1∧e = .returned (.bool (bw != 0))∧Win w' b N i f' q'∧q'.length = q.length∧(∀ j,j < i ∨ i + q.length≤j→f' j = f j)∧M.val q + 4294967296 ^ q.length * bw = M.val q' + t * M.val d:=by
 have HW:Hid (Win w b N i f q):=hw
 have HD:Hid (Sl w (.slice (some ⟨bd,od,none⟩) d.length capd) d):=hd
 have bdq:=hw.bd
 have bdd:=hd.bd
 have hbd1000:d.length≤1000000:=by omega
 clear hw hd
 go_enter Tryz.func151,Tryz.ntmps151
 go_wp2
 go_loopw [7,8,13] (fun vc vb vi wr => ∃ (k c bw:Nat) (o:List Nat),k≤q.length∧c < 4294967296∧bw≤1∧vi = .int .i64 (k:Int)∧vc = .int .u64 (c:Int)∧vb = .int .u64 (bw:Int)∧Hid (o.length = q.length∧(∀ j,k≤j→o.getD j 0 = q.getD j 0)∧M.val (q.take k) + 4294967296 ^ k * (bw + c) = M.val (o.take k) + t * M.val (d.take k)∧(d.length < k→c = 0)) ∧
   Hid (∃ g,Win wr b N i g o∧∀ j,j < i ∨ i + q.length≤j→g j = f j)∧Hid (w.grownBy wr (some b))) (fun _ _ vi _ => q.length - (intOf vi).toNat)
 case atStart => exact ⟨0,0,0,q,by omega,by omega,by omega,rfl,rfl,rfl,⟨rfl,fun _ _ => rfl,by simp [M.val],fun _ => rfl⟩,⟨f,HW.out,fun _ _ => rfl⟩,World.grownBy.refl _ _⟩
 case round =>
  obtain ⟨k,c,bw,o,hk,hc,hbw,rfl,rfl,rfl,ho,hwin,hgr⟩:=hrel
  obtain ⟨g,hg1,hg2⟩:=hwin.out
  by_cases hlt:k < q.length
  ·
   have hck:wr.cell? ⟨b,i + k,none⟩ = some (.int .u32 ((q.getD k 0:Nat):Int)):=by
    rw [hg1.row.cell (by have:=hg1.len; rw [ho.out.1] at this; omega),hg1.at_ k (by rw [ho.out.1]; exact hlt),ho.out.2.1 k (Nat.le_refl _)]
   have hfz:wr.frozen? ⟨b,i + k,none⟩ = false:=hg1.row.frozen _
   have hxb:=bdq.getD k
   have hyb:=bdd.getD k
   have hcall:Calls Tryz.prog 135 #[.slice (some ⟨bd,od,none⟩) d.length capd,.int .i64 k] wr fun e w' => e = .returned (.int .u64 ((d.getD k 0:Nat):Int))∧w' = wr:=by
    have h:=limbAt_any wr (sl_grown HD.out hgr.out hne) (k:Int) (by omega) (by omega)
    rwa [Int.toNat_natCast] at h
   have hy0:d.length≤k→d.getD k 0 = 0:=fun h => by rw [List.getD_eq_getElem?_getD,List.getElem?_eq_none h]; rfl
   obtain ⟨x,hx⟩:∃ x,x = q.getD k 0:=⟨_,rfl⟩
   obtain ⟨y,hy⟩:∃ y,y = d.getD k 0:=⟨_,rfl⟩
   rw [← hx] at hck hxb
   rw [← hy] at hyb hy0
   have HC:Hid (Calls Tryz.prog 135 #[.slice (some ⟨bd,od,none⟩) d.length capd,.int .i64 k] wr fun e w' => e = .returned (.int .u64 (y:Int))∧w' = wr):=by rw [hy]; exact hcall
   have HXY:Hid (x = q.getD k 0∧y = d.getD k 0∧(d.length≤k→y = 0)):=⟨hx,hy,hy0⟩
   clear hx hy hcall hg1 hg2 hy0
   have hyt:y * t≤4294967295 * 4294967295:=Nat.mul_le_mul (by omega) (by omega)
   obtain ⟨m,hm⟩:∃ m,m = y * t:=⟨_,rfl⟩
   rw [← hm] at hyt
   have hmi:(y:Int) * (t:Int) = (m:Int):=by rw [hm]; simp
   have hw1:IntKind.u64.wrap (m:Int) = (m:Int):=by rw [IntKind.wrap_u64]; omega
   have hw2:IntKind.u64.wrap ((c:Int) + (m:Int)) = (c:Int) + (m:Int):=by rw [IntKind.wrap_u64]; omega
   have hal:=and_low (c + m) (by omega)
   rw [show ((c + m:Nat):Int) = (c:Int) + (m:Int) by omega] at hal
   have HM:Hid (m = y * t):=hm
   clear hm
   go_wp2_with fail
   refine HC.out.mono ?_
   rintro e w9 ⟨rfl,rfl⟩
   go_wp2
   go_roundw
   case rel =>
    obtain ⟨g,hg1,hg2⟩:=hwin.out
    have hol:=ho.out.1
    obtain ⟨v,bw',hv1,hv2,hv3,hv4,hv5⟩:=borrow_fact x ((c + m) % 4294967296) bw hxb (Nat.mod_lt _ (by decide)) hbw
    rw [show (((c + m) % 4294967296:Nat):Int) = ((c:Int) + (m:Int)) % 4294967296 by omega] at hv4 hv5
    refine ⟨k + 1,(c + m) / 4294967296,bw',o.set k v,by omega,by omega,hv2,by go_num,by simp,by rw [hv4],⟨by rw [List.length_set]; exact hol,fun j hj => ?_,take_step hlt hol HXY.out.1 HXY.out.2.1 (by rw [HM.out]) hv3 ho.out.2.2.1,fun h => ?_⟩,⟨_,hg1.set (by omega) hv1 _ hv5,fun j hj => ?_⟩,grown_set hgr.out _ _⟩
    ·
     rw [getD_set _ _ _ _ (by omega),if_neg (by omega)]; exact ho.out.2.1 j (by omega)
    ·
     have h3:m = 0:=by rw [HM.out,HXY.out.2.2 (by omega),Nat.zero_mul]
     omega
    ·
     rw [if_neg (by omega)]; exact hg2 j hj
   case measure => simp [intOf]; omega
  ·
   obtain rfl:k = q.length:=by omega
   have hc0:c = 0:=ho.out.2.2.2 hdl
   subst hc0
   have HV:Hid (M.val q + 4294967296 ^ q.length * bw = M.val o + t * M.val d):=by
    have h9:=ho.out.2.2.1
    rw [List.take_of_length_le (l:=o) (by rw [ho.out.1]; exact Nat.le_refl _),List.take_length,List.take_of_length_le (by omega),Nat.add_zero] at h9
    exact h9
   clear hg1 hg2
   rcases (by omega:bw = 0 ∨ bw = 1) with rfl | rfl
   all_goals
    go_wp2
    go_ret
    obtain ⟨g,hg1,hg2⟩:=hwin.out
    first | exact ⟨hgr.out,0,hbw,rfl,g,o,hg1,ho.out.1,hg2,HV.out⟩ | exact ⟨hgr.out,1,hbw,rfl,g,o,hg1,ho.out.1,hg2,HV.out⟩
end Go.Proofs.YtdcgdpbgnijnpaaGreat

namespace Go.Proofs.YtdcgdpbgnijnpaaGreat
open Go.RowKit
def GuessIs (U V g:Nat):Prop:=g < 4294967296∧g * V≤U∧∀ h,g < h→h < 4294967296→U < h * V
theorem slot {w:World} {b i n cap:Nat} {q:List Nat} (h:Sl w (.slice (some ⟨b,i,none⟩) n cap) q) {k:Nat} (hk:k < q.length):w.cell? ⟨b,i + k,none⟩ = some (.int .u32 ((q.getD k 0:Nat):Int)):=by
 obtain ⟨_,ao',cap',he,hx⟩:=h
 simp only [Value.slice.injEq] at he
 obtain ⟨rfl,_,rfl⟩:=he
 obtain ⟨_,b',off,e,_,hc⟩:=hx (by omega)
 simp only [Option.some.injEq,Addr.mk.injEq] at e
 obtain ⟨rfl,rfl,_⟩:=e
 exact hc k hk
theorem guess_start {top v1 v0 u0:Nat} (hv:0 < v1):∀ h,top / v1 < h→h < 4294967296→top * 4294967296 + u0 < h * (v1 * 4294967296 + v0) ∨ 4294967296≤u0:=by
 intro h hh _
 by_cases hu:4294967296≤u0
 ·
  exact .inr hu
 ·
  left
  have h1:top < h * v1:=by rwa [Nat.div_lt_iff_lt_mul hv] at hh
  have h2:(top + 1) * 4294967296≤h * v1 * 4294967296:=Nat.mul_le_mul_right _ h1
  rw [Nat.mul_add,← Nat.mul_assoc]
  omega
theorem guess_test {G R top v1 v0 u0:Nat} (h:G * v1 + R = top):(G * (v1 * 4294967296 + v0)≤top * 4294967296 + u0) ↔ G * v0≤R * 4294967296 + u0:=by
 rw [Nat.mul_add,← Nat.mul_assoc,← h,Nat.add_mul]
 omega
theorem guess_first {top v1:Nat} (hv:2147483648≤v1) (ht:top < (v1 + 1) * 4294967296):top / v1≤4294967297:=by
 have h:top / v1 < 4294967298:=by
  rw [Nat.div_lt_iff_lt_mul (by omega)]
  omega
 omega
theorem guess_dec {G R top v1:Nat} (h:1≤G) (e:G * v1 + R = top):(G - 1) * v1 + (R + v1) = top:=by
 obtain ⟨k,rfl⟩:∃ k,G = k + 1:=⟨G - 1,by omega⟩
 rw [Nat.add_mul] at e
 simp only [Nat.add_sub_cancel]
 omega
theorem guess_less {G U V:Nat} (h:∀ h,G < h→h < 4294967296→U < h * V) (hw:4294967296≤G ∨ U < G * V):∀ h,G - 1 < h→h < 4294967296→U < h * V:=by
 intro k h1 h2
 by_cases e:k = G
 ·
  subst e; rcases hw with hw | hw
  ·
   omega
  ·
   exact hw
 ·
  exact h k (by omega) h2
theorem guess_break {G R top v1 v0:Nat} (h1:1≤G) (hR:R < 4294967296) (f1:v1 < 4294967296) (f0:v0 < 4294967296) (ht:top < (v1 + 1) * 4294967296) (e:G * v1 + R = top) (hb:4294967296≤R + v1) :
  G - 1 < 4294967296∧∀ u0,(G - 1) * (v1 * 4294967296 + v0)≤top * 4294967296 + u0:=by
 have e2:=guess_dec h1 e
 have hlt:G - 1 < 4294967296:=by
  apply Classical.byContradiction
  intro h
  have h3:4294967296 * v1≤(G - 1) * v1:=Nat.mul_le_mul_right _ (by omega)
  omega
 refine ⟨hlt,fun u0 => (guess_test e2).2 ?_⟩
 have h4:(G - 1) * v0≤4294967295 * 4294967295:=Nat.mul_le_mul (by omega) (by omega)
 have h5:4294967296 * 4294967296≤(R + v1) * 4294967296:=Nat.mul_le_mul_right _ hb
 omega
theorem shl32 (r:Nat) (h:r < 4294967296):IntKind.u64.wrap ((r:Int) * 4294967296) = (r:Int) * 4294967296:=by rw [IntKind.wrap_u64]; omega
set_option maxRecDepth 100000 in
set_option maxHeartbeats 4000000 in
theorem guess_any (b i cap:Nat) (q d:List Nat) (bd od capd n:Nat) (w:World) (hq:Sl w (.slice (some ⟨b,i,none⟩) (n + 1) cap) q) (hd:Sl w (.slice (some ⟨bd,od,none⟩) n capd) d) (hn:2≤n) (hl:n≤1000)
  (hv:2147483648≤d.getD (n - 1) 0) (htop:q.getD n 0 * 4294967296 + q.getD (n - 1) 0 < (d.getD (n - 1) 0 + 1) * 4294967296) :
  Calls Tryz.prog 150 #[.slice (some ⟨b,i,none⟩) (n + 1) cap,.slice (some ⟨bd,od,none⟩) n capd] w fun e w' => Kept w w'∧∃ g:Nat,e = .returned (.int .u32 (g:Int))∧GuessIs ((q.getD n 0 * 4294967296 + q.getD (n - 1) 0) * 4294967296 + q.getD (n - 2) 0) (d.getD (n - 1) 0 * 4294967296 + d.getD (n - 2) 0) g:=by
 have lq:=hq.len
 have ld:=hd.len
 have c2:=slot hq (k:=n) (by omega)
 have c1:=slot hq (k:=n - 1) (by omega)
 have c0:=slot hq (k:=n - 2) (by omega)
 have e1:=slot hd (k:=n - 1) (by omega)
 have e0:=slot hd (k:=n - 2) (by omega)
 have b2:=hq.bd.getD n
 have b1:=hq.bd.getD (n - 1)
 have b0:=hq.bd.getD (n - 2)
 have f1:=hd.bd.getD (n - 1)
 have f0:=hd.bd.getD (n - 2)
 generalize q.getD n 0 = u2 at *
 generalize q.getD (n - 1) 0 = u1 at *
 generalize q.getD (n - 2) 0 = u0 at *
 generalize d.getD (n - 1) 0 = v1 at *
 generalize d.getD (n - 2) 0 = v0 at *
 clear hq hd lq ld
 obtain ⟨top,ht⟩:∃ top,top = u2 * 4294967296 + u1:=⟨_,rfl⟩
 rw [← ht] at htop ⊢
 have hti:(u2:Int) * 4294967296 + (u1:Int) = (top:Int):=by omega
 have hv0:¬ ((v1:Int) = 0):=by omega
 have hTB:top < 18446744073709551616:=by omega
 have hwq:IntKind.u64.wrap ((top:Int) / (v1:Int)) = (top:Int) / (v1:Int):=by
  obtain ⟨x,hx⟩:∃ x,x = top / v1:=⟨_,rfl⟩
  have hxle:x≤top:=by rw [hx]; exact Nat.div_le_self top v1
  rw [show (top:Int) / (v1:Int) = (x:Int) by rw [hx]; simp,IntKind.wrap_u64]
  clear hx
  omega
 clear ht
 have hn1:((n:Int) - 1).toNat = n - 1:=by omega
 have hn2:((n:Int) - 2).toNat = n - 2:=by omega
 have g1:(0:Int)≤(n:Int) - 1:=by omega
 have g2:(0:Int)≤(n:Int) - 2:=by omega
 have g3:(n:Int) - 1 < (n:Int):=by omega
 have g4:(n:Int) - 2 < (n:Int):=by omega
 have g5:(n:Int) < ((n + 1:Nat):Int):=by omega
 have hor:=or_low u2 u1 b2 b1
 have hsh:=shl32 u2 b2
 go_enter Tryz.func150,Tryz.ntmps150
 go_wp2
 go_quiet (fail)
 go_wp2
 go_quiet (fail)
 go_wp2
 go_quiet (fail)
 go_wp2
 go_loopw [9,10] (fun vg vr wr => ∃ (G R:Nat),vg = .int .u64 (G:Int)∧vr = .int .u64 (R:Int)∧G≤4294967297∧R < 4294967296∧wr.cell? ⟨b,i + (n - 2),none⟩ = some (.int .u32 (u0:Int))∧Hid (G * v1 + R = top∧∀ h,G < h→h < 4294967296→top * 4294967296 + u0 < h * (v1 * 4294967296 + v0))∧Hid (Kept w wr)) (fun vg _ _ => (intOf vg).toNat)
 case atStart =>
  refine ⟨top / v1,top % v1,by simp,by simp,guess_first hv htop,Nat.lt_trans (Nat.mod_lt _ (by omega)) f1,c0,⟨by rw [Nat.mul_comm]; exact Nat.div_add_mod _ _,fun h h1 h2 => (guess_start (by omega) h h1 h2).resolve_right (by omega)⟩,?_⟩
  first | exact ((Kept.refl w).drewN _) | exact (((Kept.refl w).drewN _).drewN _) | exact ((((Kept.refl w).drewN _).drewN _).drewN _)
 case round =>
  obtain ⟨G,R,rfl,rfl,hGB,hR,hc0,HS,hkp⟩:=hrel
  have hsr:=shl32 R hR
  have hor2:=or_low R u0 hR b0
  clear c0 c1 c2 e0 e1 hor hsh hti hwq
  by_cases hG:4294967296≤G
  ·
   have hq1:(G:Int) / 4294967296 = 1:=by omega
   have hG1:1≤G:=by omega
   ·
    skip
    have hw1:IntKind.u64.wrap ((G:Int) - 1) = (G:Int) - 1:=by rw [IntKind.wrap_u64]; omega
    have hw2:IntKind.u64.wrap ((R:Int) + (v1:Int)) = (R:Int) + (v1:Int):=by rw [IntKind.wrap_u64]; omega
    by_cases hbr:4294967296≤R + v1
    ·
     have hr1:((R:Int) + (v1:Int)) / 4294967296 = 1:=by omega
     have HE:=guess_break hG1 hR f1 f0 htop HS.out.1 hbr
     have HP:=guess_less HS.out.2 (.inl hG)
     have hlt:G - 1 < 4294967296:=HE.1
     have hcv:((G:Int) - 1) % 4294967296 = (G:Int) - 1:=by omega
     have HF:Hid (GuessIs (top * 4294967296 + u0) (v1 * 4294967296 + v0) (G - 1)):=⟨HE.1,HE.2 u0,HP⟩
     clear HE HP
     go_wp2
     go_ret
     exact ⟨hkp.out,G - 1,by go_num,HF.out⟩
    ·
     have hr1:((R:Int) + (v1:Int)) / 4294967296 = 0:=by omega
     have HP:Hid (∀ h,G - 1 < h→h < 4294967296→top * 4294967296 + u0 < h * (v1 * 4294967296 + v0)):=guess_less HS.out.2 (.inl hG)
     go_wp2
     go_roundw
     case rel => exact ⟨G - 1,R + v1,by go_num,by go_num,by omega,by omega,hc0,⟨guess_dec hG1 HS.out.1,HP.out⟩,hkp.out⟩
     case measure => simp [intOf]; omega
  ·
   have hq1:(G:Int) / 4294967296 = 0:=by omega
   obtain ⟨m,hm⟩:∃ m,m = G * v0:=⟨_,rfl⟩
   have hmb:m≤4294967295 * 4294967295:=by rw [hm]; exact Nat.mul_le_mul (by omega) (by omega)
   have hmi:(G:Int) * (v0:Int) = (m:Int):=by rw [hm]; simp
   have hwm:IntKind.u64.wrap (m:Int) = (m:Int):=by rw [IntKind.wrap_u64]; omega
   have HM:Hid (m = G * v0):=hm
   clear hm
   by_cases hgt:R * 4294967296 + u0 < m
   ·
    have hG1:1≤G:=by
     rcases Nat.eq_zero_or_pos G with h | h
     ·
      have:=HM.out; rw [h,Nat.zero_mul] at this; omega
     ·
      exact h
    have hgi:(R:Int) * 4294967296 + (u0:Int) < (m:Int):=by omega
    have HW:Hid (top * 4294967296 + u0 < G * (v1 * 4294967296 + v0)):=by
     exact Nat.lt_of_not_le (mt (guess_test (v0:=v0) (u0:=u0) HS.out.1).1 (by rw [← HM.out]; exact Nat.not_le_of_lt hgt))
    have hw1:IntKind.u64.wrap ((G:Int) - 1) = (G:Int) - 1:=by rw [IntKind.wrap_u64]; omega
    have hw2:IntKind.u64.wrap ((R:Int) + (v1:Int)) = (R:Int) + (v1:Int):=by rw [IntKind.wrap_u64]; omega
    by_cases hbr:4294967296≤R + v1
    ·
     have hr1:((R:Int) + (v1:Int)) / 4294967296 = 1:=by omega
     have HE:=guess_break hG1 hR f1 f0 htop HS.out.1 hbr
     have HP:=guess_less HS.out.2 (.inr HW.out)
     have hlt:G - 1 < 4294967296:=HE.1
     have hcv:((G:Int) - 1) % 4294967296 = (G:Int) - 1:=by omega
     have HF:Hid (GuessIs (top * 4294967296 + u0) (v1 * 4294967296 + v0) (G - 1)):=⟨HE.1,HE.2 u0,HP⟩
     clear HE HP
     go_wp2
     go_ret
     exact ⟨hkp.out,G - 1,by go_num,HF.out⟩
    ·
     have hr1:((R:Int) + (v1:Int)) / 4294967296 = 0:=by omega
     have HP:Hid (∀ h,G - 1 < h→h < 4294967296→top * 4294967296 + u0 < h * (v1 * 4294967296 + v0)):=guess_less HS.out.2 (.inr HW.out)
     go_wp2
     go_roundw
     case rel => exact ⟨G - 1,R + v1,by go_num,by go_num,by omega,by omega,hc0,⟨guess_dec hG1 HS.out.1,HP.out⟩,hkp.out⟩
     case measure => simp [intOf]; omega
   ·
    have hgi:(m:Int)≤(R:Int) * 4294967296 + (u0:Int):=by omega
    have hcv:(G:Int) % 4294967296 = (G:Int):=by omega
    have HF:Hid (GuessIs (top * 4294967296 + u0) (v1 * 4294967296 + v0) G):=⟨by omega,(guess_test HS.out.1).2 (by rw [← HM.out]; omega),HS.out.2⟩
    go_wp2
    go_ret
    exact ⟨hkp.out,G,by go_num,HF.out⟩
end Go.Proofs.YtdcgdpbgnijnpaaGreat

namespace Go.Proofs.YtdcgdpbgnijnpaaGreat
open Go.RowKit
theorem top3 {q:List Nat} {n:Nat} (hn:2≤n) (h:q.length = n + 1):M.val q = M.val (q.take (n - 2)) + 4294967296 ^ (n - 2) * ((q.getD n 0 * 4294967296 + q.getD (n - 1) 0) * 4294967296 + q.getD (n - 2) 0):=by
 rw [M.take_drop_val q (n - 2) (by omega),M.drop_getD q (n - 2) (by omega),show n - 2 + 1 = n - 1 by omega,M.drop_getD q (n - 1) (by omega),show n - 1 + 1 = n by omega,M.drop_getD q n (by omega),List.drop_of_length_le (by omega)]
 congr 2
 simp only [M.val]
 omega
theorem top2 {d:List Nat} {n:Nat} (hn:2≤n) (h:d.length = n):M.val d = M.val (d.take (n - 2)) + 4294967296 ^ (n - 2) * (d.getD (n - 1) 0 * 4294967296 + d.getD (n - 2) 0):=by
 rw [M.take_drop_val d (n - 2) (by omega),M.drop_getD d (n - 2) (by omega),show n - 2 + 1 = n - 1 by omega,M.drop_getD d (n - 1) (by omega),show n - 1 + 1 = n by omega,List.drop_of_length_le (by omega)]
 congr 2
 simp only [M.val]
 omega
theorem guess_near {K lq ld P D U V g:Nat} (hlq:lq < K) (hld:ld < K) (hP:P = lq + K * U) (hD:D = ld + K * V) (hV:4294967296≤V) (hlt:P < 4294967296 * D) (h:GuessIs U V g):0 < D∧P / D≤g∧g≤P / D + 1:=by
 obtain ⟨hg,hle,hmax⟩:=h
 have hD0:0 < D:=by
  have:K * 1≤K * V:=Nat.mul_le_mul_left _ (by omega)
  omega
 have hKD:K * 4294967296≤D:=by
  have:K * 4294967296≤K * V:=Nat.mul_le_mul_left _ hV
  omega
 have hq0:P / D < 4294967296:=by rw [Nat.div_lt_iff_lt_mul hD0]; exact hlt
 have hqD:P / D * D≤P:=Nat.div_mul_le_self P D
 refine ⟨hD0,?_,?_⟩
 ·
  apply Classical.byContradiction
  intro hn
  have h1:=hmax (P / D) (by omega) hq0
  generalize P / D = t at *
  have hA:P < K * U + K:=by omega
  have hB:K * U + K≤K * (t * V):=by rw [← Nat.mul_succ]; exact Nat.mul_le_mul_left _ h1
  have hC:K * (t * V)≤t * D:=by rw [Nat.mul_left_comm]; exact Nat.mul_le_mul_left _ (by omega)
  exact Nat.lt_irrefl _ (Nat.lt_of_lt_of_le hA (Nat.le_trans hB (Nat.le_trans hC hqD)))
 ·
  by_cases hg0:g = 0
  ·
   rw [hg0]; exact Nat.zero_le _
  ·
   have h1:g * ld≤4294967296 * K:=Nat.mul_le_mul (by omega) (by omega)
   have h2:K * (g * V)≤K * U:=Nat.mul_le_mul_left _ hle
   have h3:g * D = g * ld + K * (g * V):=by rw [hD,Nat.mul_add,Nat.mul_left_comm]
   have h5:g * ld < g * K:=Nat.mul_lt_mul_of_pos_left hld (by omega)
   have h6:g * K≤4294967296 * K:=Nat.mul_le_mul_right _ (by omega)
   have h4:g * D < P + D:=by
    rw [h3,hP]
    rw [Nat.mul_comm K 4294967296] at hKD
    omega
   have h7:g < P / D + 2:=by
    apply Classical.byContradiction
    intro hn
    have h8:(P / D + 2) * D≤g * D:=Nat.mul_le_mul_right _ (by omega)
    have h9:=Nat.lt_div_mul_add hD0 (a:=P)
    rw [Nat.add_mul] at h8
    omega
   exact Nat.le_of_lt_succ h7
theorem top_key {P D lq ld K X Y Zz:Nat} (hP:P = lq + Zz) (hD:D = ld + Y) (hlt:P < 4294967296 * D) (hld:ld < K) (h6:Y + K≤X) (h5:4294967296 * X≤Zz):False:=by omega
theorem top_lt {P D lq ld K top u0 v1 v0:Nat} (hP:P = lq + K * (top * 4294967296 + u0)) (hD:D = ld + K * (v1 * 4294967296 + v0)) (hlt:P < 4294967296 * D) (hld:ld < K) (f0:v0 < 4294967296):top < (v1 + 1) * 4294967296:=by
 apply Classical.byContradiction
 intro hn2
 have h5:K * ((v1 + 1) * 4294967296 * 4294967296)≤K * (top * 4294967296 + u0):=Nat.mul_le_mul_left _ (by omega)
 have h6:K * (v1 * 4294967296 + v0) + K≤K * ((v1 + 1) * 4294967296):=by rw [← Nat.mul_succ]; exact Nat.mul_le_mul_left _ (by omega)
 have h7:K * ((v1 + 1) * 4294967296 * 4294967296) = 4294967296 * (K * ((v1 + 1) * 4294967296)):=by rw [← Nat.mul_assoc,Nat.mul_comm]
 rw [h7] at h5
 exact top_key hP hD hlt hld h6 h5
theorem take_plain {P D g v:Nat} (hD:0 < D) (h1:P / D≤g) (h:P = v + g * D):g = P / D∧v = P % D:=by
 have h2:g≤P / D:=by rw [Nat.le_div_iff_mul_le hD]; omega
 have e:g = P / D:=by omega
 refine ⟨e,?_⟩
 have h3:=Nat.div_add_mod P D
 rw [← e,Nat.mul_comm] at h3
 omega
theorem take_over {P D g v v' c Q:Nat} (hD:0 < D) (h2:g≤P / D + 1) (hv:v < Q) (hv':v' < Q) (hDQ:D≤Q) (h:P + Q = v + g * D) (hb:v' + Q * c = v + D):1≤g∧g - 1 = P / D∧v' = P % D:=by
 have h3:P / D < g:=by
  rw [Nat.div_lt_iff_lt_mul hD]; omega
 have e:g = P / D + 1:=by omega
 have h4:=Nat.div_add_mod P D
 have h5:=Nat.mod_lt P hD
 rw [e,Nat.add_mul,Nat.one_mul,Nat.mul_comm] at h
 have h6:v' + Q * c = Q + P % D:=by omega
 have hc:c = 1:=by
  rcases Nat.lt_or_ge c 1 with hc | hc
  ·
   have:c = 0:=by omega
   subst this
   omega
  ·
   rcases Nat.lt_or_ge c 2 with h7 | h7
   ·
    omega
   ·
    have:Q * 2≤Q * c:=Nat.mul_le_mul_left _ h7
    omega
 subst hc
 exact ⟨by rw [e]; exact Nat.le_add_left 1 _,by rw [e]; exact Nat.add_sub_cancel _ _,by omega⟩
theorem limb_facts {q d:List Nat} (bq:M.Bd q) (bd:M.Bd d) (hql:q.length = d.length + 1) (hn:2≤d.length) (htop:2147483648≤d.getD (d.length - 1) 0) (hlt:M.val q < 4294967296 * M.val d) :
  q.getD d.length 0 * 4294967296 + q.getD (d.length - 1) 0 < (d.getD (d.length - 1) 0 + 1) * 4294967296 ∧
  ∀ g,GuessIs ((q.getD d.length 0 * 4294967296 + q.getD (d.length - 1) 0) * 4294967296 + q.getD (d.length - 2) 0) (d.getD (d.length - 1) 0 * 4294967296 + d.getD (d.length - 2) 0) g→0 < M.val d∧M.val q / M.val d≤g∧g≤M.val q / M.val d + 1:=by
 have hV:4294967296≤d.getD (d.length - 1) 0 * 4294967296 + d.getD (d.length - 2) 0:=by omega
 have f0:=bd.getD (d.length - 2)
 have hlq:=M.val_lt (bq.take (d.length - 2))
 have hld:=M.val_lt (bd.take (d.length - 2))
 rw [List.length_take,Nat.min_eq_left (by omega)] at hlq hld
 have e3:=top3 hn hql
 have e2:=top2 (d:=d) hn rfl
 revert hV f0 hlq hld e3 e2 hlt
 generalize 4294967296 ^ (d.length - 2) = K
 generalize M.val (q.take (d.length - 2)) = lq
 generalize M.val (d.take (d.length - 2)) = ld
 generalize q.getD d.length 0 = u2
 generalize q.getD (d.length - 1) 0 = u1
 generalize q.getD (d.length - 2) 0 = u0
 generalize d.getD (d.length - 1) 0 = v1
 generalize d.getD (d.length - 2) 0 = v0
 generalize M.val q = P
 generalize M.val d = Dv
 intro hlt hV f0 hlq hld e3 e2
 exact ⟨top_lt (P:=P) (D:=Dv) (lq:=lq) (ld:=ld) (K:=K) (top:=u2 * 4294967296 + u1) (u0:=u0) (v1:=v1) (v0:=v0) e3 e2 hlt hld f0,fun g hg => guess_near (K:=K) (lq:=lq) (ld:=ld) (P:=P) (D:=Dv) (U:=(u2 * 4294967296 + u1) * 4294967296 + u0) (V:=v1 * 4294967296 + v0) (g:=g) hlq hld e3 e2 hV hlt hg⟩
theorem Win.sl {w:World} {b N i cap:Nat} {f:Nat→Value} {q:List Nat} (h:Win w b N i f q) (hc:q.length≤cap):Sl w (.slice (some ⟨b,i,none⟩) q.length cap) q :=
 ⟨h.bd,_,cap,rfl,fun _ => ⟨hc,b,i,rfl,h.row.lt,fun j hj => by rw [h.row.cell (by have:=h.len; omega),h.at_ j hj]⟩⟩
theorem Win.kept {w w':World} {b N i:Nat} {f:Nat→Value} {q:List Nat} (h:Win w b N i f q) (k:Kept w w'):Win w' b N i f q:=⟨h.row.of_block (Below.block k _ h.row.lt),h.at_,h.len,h.bd⟩
theorem grown_kept {w w':World} {b:Nat} (h:Kept w w'):w.grownBy w' (some b):=⟨h.os,h.tape,h.output,h.size,fun k hk _ => h.block k hk⟩
theorem grown_trans {a b c:World} {r:Option Nat} (h:a.grownBy b r) (k:b.grownBy c r):a.grownBy c r :=
 ⟨k.os.trans h.os,k.tape.trans h.tape,k.output.trans h.output,Nat.le_trans h.size k.size,fun j hj hr => (k.block j (Nat.lt_of_lt_of_le hj h.size) hr).trans (h.block j hj hr)⟩
end Go.Proofs.YtdcgdpbgnijnpaaGreat

namespace Go.Proofs.YtdcgdpbgnijnpaaGreat
open Go.RowKit
def GuessOf (q d:List Nat) (g:Nat):Prop:=GuessIs ((q.getD d.length 0 * 4294967296 + q.getD (d.length - 1) 0) * 4294967296 + q.getD (d.length - 2) 0) (d.getD (d.length - 1) 0 * 4294967296 + d.getD (d.length - 2) 0) g
theorem GuessOf.lt {q d:List Nat} {g:Nat} (h:GuessOf q d g):g < 4294967296:=h.1
theorem guess_at (b i cap:Nat) (q d:List Nat) (bd od capd:Nat) (w:World) (hq:Sl w (.slice (some ⟨b,i,none⟩) q.length cap) q) (hd:Sl w (.slice (some ⟨bd,od,none⟩) d.length capd) d) (hql:q.length = d.length + 1) (hn:2≤d.length) (hl:d.length≤1000)
  (hv:2147483648≤d.getD (d.length - 1) 0) (htop:q.getD d.length 0 * 4294967296 + q.getD (d.length - 1) 0 < (d.getD (d.length - 1) 0 + 1) * 4294967296) :
  Calls Tryz.prog 150 #[.slice (some ⟨b,i,none⟩) q.length cap,.slice (some ⟨bd,od,none⟩) d.length capd] w fun e w' => Kept w w'∧∃ g:Nat,e = .returned (.int .u32 (g:Int))∧GuessOf q d g:=by
 obtain ⟨m,hm⟩:∃ m,m = q.length:=⟨_,rfl⟩
 rw [← hm] at hq hql ⊢
 subst hql
 exact guess_any b i cap q d bd od capd d.length w hq hd hn hl hv htop
set_option maxRecDepth 100000 in
set_option maxHeartbeats 1000000 in
theorem takeLimb_any (b N i cap:Nat) (f:Nat→Value) (q d:List Nat) (bd od capd:Nat) (w:World) (hw:Win w b N i f q) (hd:Sl w (.slice (some ⟨bd,od,none⟩) d.length capd) d) (hne:bd ≠ b) (hcap:q.length≤cap) (hl:q.length≤1000) (hql:q.length = d.length + 1) (hn:2≤d.length)
  (htop:2147483648≤d.getD (d.length - 1) 0) (hlt:M.val q < 4294967296 * M.val d) :
  Calls Tryz.prog 147 #[.slice (some ⟨b,i,none⟩) q.length cap,.slice (some ⟨bd,od,none⟩) d.length capd] w fun e w' => w.grownBy w' (some b)∧∃ f' q',e = .returned (.int .u32 ((M.val q / M.val d:Nat):Int))∧Win w' b N i f' q'∧q'.length = q.length∧(∀ j,j < i ∨ i + q.length≤j→f' j = f j)∧M.val q' = M.val q % M.val d:=by
 obtain ⟨ht2,hnear⟩:=limb_facts hw.bd hd.bd hql hn htop hlt
 have NEAR:Hid (∀ g,GuessOf q d g→0 < M.val d∧M.val q / M.val d≤g∧g≤M.val q / M.val d + 1):=hnear
 have HDQ:Hid (M.val d≤4294967296 ^ q.length):=Nat.le_trans (Nat.le_of_lt (M.val_lt hd.bd)) (Nat.pow_le_pow_right (by decide) (by omega))
 clear hnear
 have HG:Hid (Calls Tryz.prog 150 #[.slice (some ⟨b,i,none⟩) q.length cap,.slice (some ⟨bd,od,none⟩) d.length capd] w fun e w' => Kept w w'∧∃ g:Nat,e = .returned (.int .u32 (g:Int))∧GuessOf q d g) :=
  guess_at b i cap q d bd od capd w (hw.sl hcap) hd hql hn (by omega) htop ht2
 have HW:Hid (Win w b N i f q):=hw
 have HD:Hid (Sl w (.slice (some ⟨bd,od,none⟩) d.length capd) d):=hd
 obtain ⟨qv,hqv⟩:∃ qv,qv = M.val q / M.val d:=⟨_,rfl⟩
 rw [← hqv]
 have HQV:Hid (qv = M.val q / M.val d):=hqv
 have HL:Hid (q.length = d.length + 1∧2≤d.length∧q.length≤1000∧q.length≤cap):=⟨hql,hn,hl,hcap⟩
 clear hw hd hlt hqv htop ht2 hql hn hl hcap
 go_enter Tryz.func147,Tryz.ntmps147
 go_wp2_with fail
 refine HG.out.mono ?_
 rintro e w1 ⟨hk1,g,rfl,hgi⟩
 have hgB:g < 4294967296:=GuessOf.lt hgi
 have HN:Hid (0 < M.val d∧qv≤g∧g≤qv + 1):=by rw [HQV.out]; exact NEAR.out g hgi
 have HK1:Hid (Kept w w1):=hk1
 clear hk1 hgi HG NEAR
 go_wp2_with fail
 refine (takeTimes_any b N i cap f q d g bd od capd _ (HW.out.kept HK1.out) (HD.out.kept HK1.out) hne HL.out.2.2.1 (by have:=HL.out; omega) hgB).mono ?_
 rintro e w2 ⟨hgr2,bw,f2,q2,hbw,rfl,hw2,hl2,hf2,hv2⟩
 have HL2:Hid (q2.length = q.length):=hl2
 clear hl2
 have H2:Hid (w.grownBy w2 (some b)∧Win w2 b N i f2 q2∧(∀ j,j < i ∨ i + q.length≤j→f2 j = f j)∧M.val q + 4294967296 ^ q.length * bw = M.val q2 + g * M.val d):=⟨grown_trans (grown_kept HK1.out) hgr2,hw2,hf2,hv2⟩
 clear hgr2 hw2 hf2 hv2
 rcases (by omega:bw = 0 ∨ bw = 1) with rfl | rfl
 ·
  go_wp2
  go_ret
  have h9:=H2.out.2.2.2
  rw [Nat.mul_zero,Nat.add_zero] at h9
  have h8:=HN.out
  rw [HQV.out] at h8
  obtain ⟨e1,e2⟩:=take_plain h8.1 h8.2.1 h9
  have e9:g = qv:=e1.trans HQV.out.symm
  exact ⟨H2.out.1,f2,q2,by rw [← e9]; rfl,H2.out.2.1,HL2.out,H2.out.2.2.1,e2⟩
 ·
  go_wp2_with fail
  have hpb:=putBack_any b N i cap f2 q2 d bd od capd w2 H2.out.2.1 (sl_grown HD.out H2.out.1 hne) hne (by rw [HL2.out]; exact HL.out.2.2.1) (by rw [HL2.out]; have:=HL.out; omega)
  rw [HL2.out] at hpb
  refine hpb.mono ?_
  rintro e w3 ⟨hgr3,rfl,f3,q3,c,hw3,hl3,hf3,hv3⟩
  have h8:=HN.out
  rw [HQV.out] at h8
  have h9:=H2.out.2.2.2
  rw [Nat.mul_one] at h9
  have b2:=M.val_lt H2.out.2.1.bd
  have b3:=M.val_lt hw3.bd
  rw [HL2.out] at b2
  rw [hl3] at b3
  obtain ⟨k1,k2,k3⟩:=take_over h8.1 h8.2.2 b2 b3 HDQ.out h9 hv3
  rw [← HQV.out] at k2
  have H3:Hid (w.grownBy w3 (some b)∧Win w3 b N i f3 q3∧q3.length = q.length∧(∀ j,j < i ∨ i + q.length≤j→f3 j = f j)∧M.val q3 = M.val q % M.val d):=⟨grown_trans H2.out.1 hgr3,hw3,hl3,fun j hj => (hf3 j hj).trans (H2.out.2.2.1 j hj),k3⟩
  have hwg:IntKind.u32.wrap ((g:Int) - 1) = (qv:Int):=by rw [IntKind.wrap_u32]; omega
  clear hgr3 hw3 hl3 hf3 hv3 h8 h9 b2 b3 k3 hpb
  go_wp2
  go_ret
  exact ⟨H3.out.1,f3,q3,by first | rfl | (congr 2; omega),H3.out.2⟩
end Go.Proofs.YtdcgdpbgnijnpaaGreat

namespace Go.Proofs.YtdcgdpbgnijnpaaGreat
open Go.RowKit
theorem shl_step {a p:List Nat} {k c x S:Nat} (hp:p.length = k) (hx:x = a.getD k 0)
  (h:M.val p + 4294967296 ^ k * c = M.val (a.take k) * S):M.val (p ++ [(c + x * S) % 4294967296]) + 4294967296 ^ (k + 1) * ((c + x * S) / 4294967296) = M.val (a.take (k + 1)) * S:=by
 rw [M.val_snoc,M.take_succ_getD,← hx,hp,Nat.pow_succ,Nat.mul_assoc,Nat.add_assoc,← Nat.mul_add,Nat.mod_add_div,Nat.add_mul,← h,Nat.mul_add,Nat.mul_assoc]
 omega
theorem shl_or {c x s S:Nat} (hS:S = 2 ^ s) (hs:s≤31) (hc:c < S) (hx:x < 4294967296):bits .or .u64 (c:Int) (IntKind.u64.wrap ((x:Int) * 2 ^ s)) = ((c + x * S:Nat):Int):=by
 have h1:S≤2147483648:=by rw [hS]; exact Nat.le_trans (Nat.pow_le_pow_right (by decide) hs) (by decide)
 have h2:x * S≤4294967295 * 2147483648:=Nat.mul_le_mul (by omega) h1
 have h3:(x:Int) * 2 ^ s = ((x * S:Nat):Int):=by rw [hS]; simp
 have h4:IntKind.u64.wrap ((x * S:Nat):Int) = ((x * S:Nat):Int):=by
  generalize x * S = y at *
  rw [IntKind.wrap_u64]; omega
 rw [h3,h4,bits_or_u64_nat c (x * S) (by omega) (by omega)]
 have h5:=Nat.two_pow_add_eq_or_of_lt (i:=s) (b:=c) (by rw [← hS]; exact hc) x
 rw [← hS,Nat.mul_comm S x,Nat.or_comm] at h5
 rw [← h5,Nat.add_comm]
set_option maxRecDepth 100000 in
set_option maxHeartbeats 2000000 in
theorem shiftLeft_any (ao:Option Addr) (cap:Nat) (a:List Nat) (s:Nat) (w:World) (ha:Sl w (.slice ao a.length cap) a) (hl:a.length≤1000) (hs:s≤31) :
  Calls Tryz.prog 146 #[.slice ao a.length cap,.int .i64 (s:Int)] w fun e w' => Kept w w'∧∃ b N p,e = .returned (.slice (some ⟨b,0,none⟩) (a.length + 1) N)∧New w.heap.size w' (.slice (some ⟨b,0,none⟩) (a.length + 1) N) p∧p.length = a.length + 1∧M.val p = M.val a * 2 ^ s:=by
 have HA:Hid (Sl w (.slice ao a.length cap) a):=ha
 have bda:=ha.bd
 clear ha
 have hmk:∀ w:World,(Instr.makeSlice 35 (.int .i64 ((a.length:Int) + 1)) (.int .i64 ((a.length:Int) + 1))).run Tryz.prog w = .ok (.slice (some ⟨w.heap.size,0,none⟩) (a.length + 1) (a.length + 1)) (w.alloc (.cells (madeCells #[.int .u32 0] (a.length + 1)) 40)):=fun w => by
  have h:=make_limbs (a.length + 1) (by omega) w
  rwa [show ((a.length + 1:Nat):Int) = (a.length:Int) + 1 by omega] at h
 obtain ⟨S,hS⟩:∃ S,S = 2 ^ s:=⟨_,rfl⟩
 have HSS:Hid (S = 2 ^ s):=hS
 rw [← hS]
 clear hS
 go_enter Tryz.func146,Tryz.ntmps146
 go_wp2
 go_loopw [6,15] (fun vc vi wr => ∃ (k c:Nat) (p:List Nat),k≤a.length∧c < S∧vi = .int .i64 k∧vc = .int .u64 c∧Hid (p.length = k∧M.Bd p∧M.val p + 4294967296 ^ k * c = M.val (a.take k) * S) ∧
   Hid (wr.rowIs w.heap.size 40 (a.length + 1) (fun j => .int .u32 ((p.getD j 0:Nat):Int)))∧Hid (Kept w wr)) (fun _ vi _ => a.length - (intOf vi).toNat)
 case atStart => exact ⟨0,0,[],Nat.zero_le _,by rw [HSS.out]; exact Nat.two_pow_pos s,rfl,rfl,⟨rfl,M.Bd_nil,by simp [M.val]⟩,row_made w _,(Kept.refl w).alloc _⟩
 case round =>
  obtain ⟨k,c,p,hk,hc1,rfl,rfl,hp,hrow,hkept⟩:=hrel
  have hf:wr.frozen? ⟨w.heap.size,k,none⟩ = false:=hrow.out.frozen _
  have hco:wr.cell? ⟨w.heap.size,k,none⟩ = some (.int .u32 ((p.getD k 0:Nat):Int)):=hrow.out.cell (by omega)
  obtain ⟨z,hz⟩:∃ z:Int,z = ((p.getD k 0:Nat):Int):=⟨_,rfl⟩
  rw [← hz] at hco
  clear hz
  by_cases hlt:k < a.length
  ·
   obtain ⟨bx,ox,rfl,_,_,hck0⟩:∃ b off,ao = some ⟨b,off,none⟩∧a.length≤cap∧b < w.heap.size∧w.cell? ⟨b,off + k,none⟩ = some (.int .u32 ((a.getD k 0:Nat):Int)):=by
    obtain ⟨_,ao',cap',he,hx⟩:=HA.out
    simp only [Value.slice.injEq] at he
    obtain ⟨rfl,_,rfl⟩:=he
    obtain ⟨h1,b,off,rfl,h2,hc⟩:=hx (by omega)
    exact ⟨b,off,rfl,h1,h2,hc k hlt⟩
   have hck:=cell_kept hkept.out hck0
   have hxb:=bda.getD k
   obtain ⟨x,hx⟩:∃ x,x = a.getD k 0:=⟨_,rfl⟩
   rw [← hx] at hck hxb
   have HX:Hid (x = a.getD k 0):=hx
   clear hx hck0
   have hor:=shl_or HSS.out hs hc1 hxb
   have HB:Hid (c + x * S < S * 4294967296):=by
    show _ < _
    have h1:x * S≤4294967295 * S:=Nat.mul_le_mul_right _ (by omega)
    omega
   obtain ⟨t,ht⟩:∃ t,t = c + x * S:=⟨_,rfl⟩
   rw [← ht] at hor
   have HT:Hid (t = c + x * S):=ht
   clear ht
   go_wp2
   go_roundw
   case rel =>
    have hdv:t / 4294967296 < S:=by rw [Nat.div_lt_iff_lt_mul (by decide),HT.out]; exact HB.out
    refine ⟨k + 1,t / 4294967296,p ++ [t % 4294967296],by omega,hdv,by go_num,by simp,⟨by rw [List.length_append,hp.out.1]; rfl,hp.out.2.1.snoc (Nat.mod_lt _ (by decide)),?_⟩,?_,?_⟩
    ·
     rw [HT.out]; exact shl_step hp.out.1 HX.out hp.out.2.2
    ·
     exact row_snoc (hrow.out) k hp.out.1.symm _ _ (by simp)
    ·
     exact hkept.out.setCell (Nat.le_refl _) _
   case measure => simp [intOf]; omega
  ·
   obtain rfl:k = a.length:=by omega
   have hS31:S≤2147483648:=by rw [HSS.out]; exact Nat.le_trans (Nat.pow_le_pow_right (by decide) hs) (by decide)
   have hcm:(c:Int) % 4294967296 = (c:Int):=by omega
   have HV:Hid (M.val p + 4294967296 ^ a.length * c = M.val a * S):=by
    have h9:=hp.out.2.2
    rw [List.take_length] at h9
    exact h9
   go_wp2
   go_ret
   refine ⟨hkept.out.setCell (Nat.le_refl _) _,w.heap.size,a.length + 1,p ++ [c],rfl,New.of_row (row_snoc hrow.out a.length hp.out.1.symm c _ rfl) (hp.out.2.1.snoc (by omega)) (by rw [List.length_append,hp.out.1]; rfl) (Nat.le_refl _) (Nat.le_refl _),by rw [List.length_append,hp.out.1]; rfl,?_⟩
   rw [M.val_snoc,hp.out.1]; exact HV.out
end Go.Proofs.YtdcgdpbgnijnpaaGreat

namespace Go.Proofs.YtdcgdpbgnijnpaaGreat
open Go.RowKit
end Go.Proofs.YtdcgdpbgnijnpaaGreat

namespace Go.Proofs.YtdcgdpbgnijnpaaGreat
open Go.RowKit
def i64r (z:Int):Int:=if -9223372036854775808≤z∧z≤9223372036854775807 then z else 0
def i64e (z:Int):Int:=if -9223372036854775808≤z∧z≤9223372036854775807 then 0 else 4
set_option maxHeartbeats 1000000 in
theorem fits_any (r m:Bool) (ao:Option Addr) (n cap:Nat) (l:List Nat) (k:Int) (w:World) (h:Sl w (.slice ao n cap) l) (hl:l.length≤80) (hr:(r = true∧R m l) ∨ (r = false∧¬ R m l)) :
  Calls Tryz.prog 70 #[.agg #[.bool m,.slice ao n cap],.int .i64 k] w fun e w' => e = .returned (.bool (r && decide ((n:Int)≤k)))∧Kept w w':=by
 have hn:=h.len
 subst hn
 have HS:Hid (Sl w (.slice ao l.length cap) l):=h
 clear h
 rcases hr with ⟨rfl,hr⟩ | ⟨rfl,hr⟩
 ·
  have HR:Hid (R m l):=hr
  clear hr
  go_enter Tryz.func70,Tryz.ntmps70
  go_wp2_with fail
  refine (check_yes m _ l _ (HS.out.kept ((Kept.refl w).alloc _)) HR.out).mono ?_
  rintro e w1 ⟨rfl,hk⟩
  obtain ⟨hA0,hA1⟩:=box_kept hk
  have HK:Hid (Kept w w1):=((Kept.refl w).alloc _).trans hk
  clear hk
  go_wp2
  go_ret
  exact ⟨by simp,HK.out⟩
 ·
  have HR:Hid (¬ R m l):=hr
  clear hr
  go_enter Tryz.func70,Tryz.ntmps70
  go_wp2_with fail
  refine (check_no m _ l _ (HS.out.kept ((Kept.refl w).alloc _)) (by omega) HR.out).mono ?_
  rintro e w1 ⟨rfl,hk⟩
  have HK:Hid (Kept w w1):=((Kept.refl w).alloc _).trans hk
  clear hk
  go_wp2
  go_ret
  exact ⟨by simp,HK.out⟩
end Go.Proofs.YtdcgdpbgnijnpaaGreat

/- The product of two magnitudes. -/
import Derived.Test.YtgofinhnlcbafaaGreatGab
namespace Go.Proofs.YtgofinhnlcbafaaGreat
open Go.RowKit
theorem prod_step {b o:List Nat} {V x y i j c s:Nat} (hy:y = b.getD j 0) (hm:i + j < o.length) (hs:s = c + (x * y + o.getD (i + j) 0))
  (h:M.val o + 4294967296 ^ (i + j) * c = V + x * (4294967296 ^ i * M.val (b.take j))) :
  M.val (o.set (i + j) (s % 4294967296)) + 4294967296 ^ (i + (j + 1)) * (s / 4294967296) = V + x * (4294967296 ^ i * M.val (b.take (j + 1))):=by
 have h1:=val_set o (i + j) (s % 4294967296) hm
 rw [M.take_succ_getD,← hy,← Nat.add_assoc,Nat.pow_succ,Nat.mul_assoc]
 have e1:4294967296 ^ (i + j) * (s % 4294967296) + 4294967296 ^ (i + j) * (4294967296 * (s / 4294967296)) = 4294967296 ^ (i + j) * s:=by rw [← Nat.mul_add]; congr 1; omega
 have e2:4294967296 ^ (i + j) * s = 4294967296 ^ (i + j) * c + 4294967296 ^ (i + j) * (x * y) + 4294967296 ^ (i + j) * o.getD (i + j) 0:=by rw [hs,Nat.mul_add,Nat.mul_add]; omega
 have e3:x * (4294967296 ^ i * (M.val (b.take j) + 4294967296 ^ j * y)) = x * (4294967296 ^ i * M.val (b.take j)) + 4294967296 ^ (i + j) * (x * y):=by
  rw [Nat.mul_add,Nat.mul_add,Nat.pow_add]
  congr 1
  rw [← Nat.mul_assoc (4294967296 ^ i),Nat.mul_left_comm]
 omega
theorem prod_round {a b o:List Nat} {x i c:Nat} (hx:x = a.getD i 0) (hm:i + b.length < o.length) (hz:o.getD (i + b.length) 0 = 0)
  (h:M.val o + 4294967296 ^ (i + b.length) * c = M.val (a.take i) * M.val b + x * (4294967296 ^ i * M.val (b.take b.length))) :
  M.val (o.set (i + b.length) c) = M.val (a.take (i + 1)) * M.val b:=by
 have h1:=val_set o (i + b.length) c hm
 rw [hz] at h1
 rw [List.take_length] at h
 rw [M.take_succ_getD,← hx,Nat.add_mul]
 have e:4294967296 ^ i * x * M.val b = x * (4294967296 ^ i * M.val b):=by rw [Nat.mul_comm (4294967296 ^ i) x,Nat.mul_assoc]
 omega
theorem mul_bound {x y:Nat} (hx:x < 4294967296) (hy:y < 4294967296):x * y≤18446744065119617025:=by
 have:=Nat.mul_le_mul (Nat.le_of_lt_succ hx) (Nat.le_of_lt_succ hy)
 exact this
set_option maxHeartbeats 2000000 in
theorem product_any (va vb:Value) (a b:List Nat) (w:World) (ha:Sl w va a) (hb:Sl w vb b) (hla:a.length≤1000) (hlb:b.length≤1000) :
  Calls Tryz.prog 125 #[va,vb] w fun e w' => Kept w w'∧∃ v' l',e = .returned v'∧New w.heap.size w' v' l'∧M.Tr l'∧M.val l' = M.val a * M.val b∧l'.length≤a.length + b.length:=by
 obtain ⟨bda,aoa,capa,rfl,hxa⟩:=ha
 obtain ⟨bdb,aob,capb,rfl,hxb⟩:=hb
 have HA:Hid (_):=hxa
 have HB:Hid (_):=hxb
 clear hxa hxb
 have hmk:∀ w:World,(Instr.makeSlice 64 (.int .i64 ((a.length:Int) + (b.length:Int))) (.int .i64 ((a.length:Int) + (b.length:Int)))).run Tryz.prog w = .ok (.slice (some ⟨w.heap.size,0,none⟩) (a.length + b.length) (a.length + b.length)) (w.alloc (.cells (madeCells #[.int .u32 0] (a.length + b.length)) 88)):=fun w => by
  have h:=make_limbs (a.length + b.length) (by omega) w
  rwa [show ((a.length + b.length:Nat):Int) = (a.length:Int) + (b.length:Int) by omega] at h
 go_enter Tryz.func125,Tryz.ntmps125
 go_wp2
 go_loopw [19] (fun vi wr => ∃ (i:Nat) (o:List Nat),i≤a.length∧vi = .int .i64 i∧Hid (o.length = a.length + b.length∧M.Bd o∧(∀ j,i + b.length≤j→o.getD j 0 = 0)∧M.val o = M.val (a.take i) * M.val b) ∧
   Hid (wr.rowIs w.heap.size 88 (a.length + b.length) (fun j => .int .u32 ((o.getD j 0:Nat):Int)))∧Hid (Kept w wr)) (fun vi _ => a.length - (intOf vi).toNat)
 case atStart =>
  refine ⟨0,List.replicate (a.length + b.length) 0,Nat.zero_le _,rfl,⟨by simp,Bd_replicate _,fun j _ => ?_,by rw [val_replicate]; simp [M.val]⟩,(row_made w _).congr (fun j _ => ?_),(Kept.refl w).alloc _⟩
  ·
   rw [List.getD_eq_getElem?_getD,List.getElem?_replicate]; split <;> rfl
  ·
   rw [List.getD_eq_getElem?_getD,List.getD_eq_getElem?_getD,List.getElem?_replicate]; split <;> rfl
 case round =>
  obtain ⟨i,o,hi,rfl,ho,hrow,hkept⟩:=hrel
  by_cases hlt:i < a.length
  ·
   obtain ⟨_,ba,oa,rfl,hba,hca⟩:=HA.out (by omega)
   have hci:wr.cell? ⟨ba,oa + i,none⟩ = some (.int .u32 ((a.getD i 0:Nat):Int)):=(hkept.out.cell (p:=⟨ba,oa + i,none⟩) hba).trans (hca i hlt)
   have hxb:=bda.getD i
   obtain ⟨x,hx⟩:∃ x,x = a.getD i 0:=⟨_,rfl⟩
   rw [← hx] at hci hxb
   have HX:Hid (x = a.getD i 0):=hx
   clear hx hca
   go_wp2
   go_loopw [8,26] (fun vc vj wr2 => ∃ (j c:Nat) (o:List Nat),j≤b.length∧c≤4294967295∧vj = .int .i64 j∧vc = .int .u64 c∧Hid (o.length = a.length + b.length∧M.Bd o∧(∀ j,i + b.length≤j→o.getD j 0 = 0)∧M.val o + 4294967296 ^ (i + j) * c = M.val (a.take i) * M.val b + x * (4294967296 ^ i * M.val (b.take j))) ∧
     Hid (wr2.rowIs w.heap.size 88 (a.length + b.length) (fun j => .int .u32 ((o.getD j 0:Nat):Int)))∧Hid (Kept w wr2)) (fun _ vj _ => b.length - (intOf vj).toNat)
   case atStart => exact ⟨0,0,o,Nat.zero_le _,by omega,rfl,rfl,⟨ho.out.1,ho.out.2.1,ho.out.2.2.1,by rw [ho.out.2.2.2]; simp [M.val]⟩,hrow.out,hkept.out⟩
   case round =>
    obtain ⟨j,c,o,hj,hc,rfl,rfl,ho,hrow,hkept⟩:=hrel
    by_cases hjl:j < b.length
    ·
     obtain ⟨_,bb,ob,rfl,hbb,hcb⟩:=HB.out (by omega)
     have hcj:wr.cell? ⟨bb,ob + j,none⟩ = some (.int .u32 ((b.getD j 0:Nat):Int)):=(hkept.out.cell (p:=⟨bb,ob + j,none⟩) hbb).trans (hcb j hjl)
     have hyb:=bdb.getD j
     obtain ⟨y,hy⟩:∃ y,y = b.getD j 0:=⟨_,rfl⟩
     rw [← hy] at hcj hyb
     have HY:Hid (y = b.getD j 0):=hy
     have hf:wr.frozen? ⟨w.heap.size,i + j,none⟩ = false:=hrow.out.frozen _
     have hco:wr.cell? ⟨w.heap.size,i + j,none⟩ = some (.int .u32 ((o.getD (i + j) 0:Nat):Int)):=hrow.out.cell (by omega)
     have hzb:=ho.out.2.1.getD (i + j)
     obtain ⟨z,hz⟩:∃ z,z = o.getD (i + j) 0:=⟨_,rfl⟩
     rw [← hz] at hco hzb
     have HZ:Hid (z = o.getD (i + j) 0):=hz
     have hxy:=mul_bound hxb hyb
     have hxy1:(x:Int) * (y:Int)≤18446744065119617025:=by have:=Int.ofNat_le.2 hxy; simpa using this
     have hxy0:0≤(x:Int) * (y:Int):=by rw [← Int.natCast_mul]; exact Int.natCast_nonneg _
     clear hy hcb hz hxy HA HB
     go_wp2
     go_roundw
     case rel =>
      have hxyn:x * y≤18446744065119617025:=mul_bound hxb hyb
      have hm:i + j < o.length:=by rw [ho.out.1]; omega
      refine ⟨j + 1,(c + (x * y + z)) / 4294967296,o.set (i + j) ((c + (x * y + z)) % 4294967296),by omega,by omega,by go_num,?_,⟨by rw [List.length_set]; exact ho.out.1,Bd_set ho.out.2.1 _ _ (Nat.mod_lt _ (by decide)),fun j' hj' => ?_,prod_step HY.out hm (by rw [← HZ.out]) ho.out.2.2.2⟩,
       row_set hrow.out (i + j) hm _ _ (by simp),hkept.out.setCell (Nat.le_refl _) _⟩
      ·
       simp
      ·
       rw [getD_set _ _ _ _ hm,if_neg (by omega)]; exact ho.out.2.2.1 j' hj'
     case measure => simp [intOf]; omega
    ·
     obtain rfl:j = b.length:=by omega
     have hf:wr.frozen? ⟨w.heap.size,i + b.length,none⟩ = false:=hrow.out.frozen _
     have hco:wr.cell? ⟨w.heap.size,i + b.length,none⟩ = some (.int .u32 ((o.getD (i + b.length) 0:Nat):Int)):=hrow.out.cell (by omega)
     obtain ⟨z,hz⟩:∃ z:Int,z = ((o.getD (i + b.length) 0:Nat):Int):=⟨_,rfl⟩
     rw [← hz] at hco
     clear hz HA HB
     go_wp2
     go_roundw
     case rel =>
      have hm:i + b.length < o.length:=by rw [ho.out.1]; omega
      refine ⟨i + 1,o.set (i + b.length) c,by omega,by go_num,⟨by rw [List.length_set]; exact ho.out.1,Bd_set ho.out.2.1 _ _ (by omega),fun j' hj' => ?_,prod_round HX.out hm (ho.out.2.2.1 _ (Nat.le_refl _)) ho.out.2.2.2⟩,row_set hrow.out _ hm _ _ rfl,hkept.out.setCell (Nat.le_refl _) _⟩
      rw [getD_set _ _ _ _ hm,if_neg (by omega)]; exact ho.out.2.2.1 j' (by omega)
     case measure => simp [intOf]; omega
  ·
   obtain rfl:i = a.length:=by omega
   have hnew:=New.of_row (n:=a.length + b.length) hrow.out ho.out.2.1 ho.out.1.symm (Nat.le_refl _) (Nat.le_refl w.heap.size)
   have HN0:Hid (New w.heap.size wr (.slice (some ⟨w.heap.size,0,none⟩) (a.length + b.length) (a.length + b.length)) o):=hnew
   have HL:Hid (o.length = a.length + b.length):=ho.out.1
   have HV:Hid (M.val o = M.val a * M.val b):=by
    have:=ho.out.2.2.2
    rw [List.take_length] at this
    exact this
   clear HA HB hnew
   go_wp2_with fail
   refine (trim_new _ HN0.out (by have:=HL.out; omega)).mono ?_
   rintro e w1 ⟨rfl,v',l',rfl,hn',ht',hv',hl'⟩
   have HN:Hid (New w.heap.size w1 v' l'):=hn'
   have HR:Hid (M.Tr l'∧M.val l' = M.val a * M.val b∧l'.length≤a.length + b.length):=⟨ht',by rw [hv',HV.out],by rw [← HL.out]; exact hl'⟩
   clear hn' ht' hv' hl'
   go_wp2
   go_ret
   exact ⟨hkept.out,v',l',rfl,HN.out,HR.out⟩
end Go.Proofs.YtgofinhnlcbafaaGreat

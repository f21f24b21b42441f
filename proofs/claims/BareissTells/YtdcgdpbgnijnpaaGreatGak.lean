/- Small, Length, Minus of package shuntref01. Times of package shuntref01: the product of two numbers. Plus, Less, Times of package shuntref01, as whole numbers with signs. digit of shuntref01: one digit of a quotient, by halving. Small of package shuntref01: its digit is new. Give, told of package shuntref01: a number as limbs. -/
import Derived.Test.YtdcgdpbgnijnpaaGreatGaj
import Derived.Test.YtdcgdpbgnijnpaaGreatGaf
import Derived.Test.YtdcgdpbgnijnpaaGreatGag
namespace Go.Proofs.YtdcgdpbgnijnpaaGreat
open Go.RowKit
namespace D
theorem one_digit (v:Nat) (h0:0 < v) (hv:v < 65536):D.Bd [v]∧D.Tr [v]∧D.val [v] = v :=
 ⟨fun x hx => by simp at hx; omega,.inr (by simpa using Nat.ne_of_gt h0),by simp [D.val]⟩
theorem Sl.far {w:World} {b off n cap:Nat} {l:List Nat} (h:Sl w (.slice (some ⟨b,off,none⟩) n cap) l) {p:Addr} (hp:p.block ≠ b) (u:Value):Sl (w.setCell p u) (.slice (some ⟨b,off,none⟩) n cap) l:=by
 obtain ⟨hb,ao,cap',hv,hx⟩:=h
 simp only [Value.slice.injEq] at hv
 obtain ⟨rfl,rfl,rfl⟩:=hv
 refine ⟨hb,_,cap,rfl,fun h0 => ?_⟩
 obtain ⟨h1,b',off',e,hlt,hc⟩:=hx h0
 simp only [Option.some.injEq,Addr.mk.injEq] at e
 obtain ⟨rfl,rfl,_⟩:=e
 exact ⟨h1,b,off,rfl,by rw [World.size_setCell]; exact hlt,fun j hj => by rw [World.cell?_setCell_far _ _ _ _ hp]; exact hc j hj⟩
theorem Sl.box {w:World} {v:Value} {l:List Nat} {b:Nat} {q:Bool} {ao:Option Addr} {n cap:Nat} (h:Sl w v l) (h0:w.cell? ⟨b,0,none⟩ = some (.bool q)) (h1:w.cell? ⟨b,1,none⟩ = some (.slice ao n cap)) (x y:Value):Sl ((w.setCell ⟨b,0,none⟩ x).setCell ⟨b,1,none⟩ y) v l:=by
 obtain ⟨hb,ao,cap',rfl,hx⟩:=h
 refine ⟨hb,ao,cap',rfl,fun hl => ?_⟩
 obtain ⟨k1,b',off',rfl,hlt,hc⟩:=hx hl
 refine ⟨k1,b',off',rfl,by rw [World.size_setCell,World.size_setCell]; exact hlt,fun j hj => ?_⟩
 rw [World.cell?_setCell_other _ _ _ _ (fun e => by have:=hc j hj; rw [← e,h1] at this; simp at this),World.cell?_setCell_other _ _ _ _ (fun e => by have:=hc j hj; rw [← e,h0] at this; simp at this)]
 exact hc j hj
set_option maxRecDepth 100000 in
set_option maxHeartbeats 1000000 in
theorem small_any (v:Nat) (w:World) (hv:v < 65536) :
  Calls Tryz.prog 25 #[.int .i64 (v:Int)] w fun e w' => Kept w w'∧∃ ao n cap l,e = .returned (.agg #[.bool false,.slice ao n cap])∧Sl w' (.slice ao n cap) l∧D.Tr l∧D.val l = v∧l.length≤1:=by
 obtain ⟨i0,hi,hz0,hz1,hz2⟩:=info_parts infoI
 have hml:0 + 1≤maxLen:=by unfold maxLen; omega
 go_enter Tryz.func25,Tryz.ntmps25
 go_wp2
 go_loopw [0] (fun v0 wr => (v0 = .int .i64 (v:Int)∧wr = (w.alloc (Obj.cells #[.bool false,.slice none 0 0] 51)).alloc (Obj.cells #[.bool false,.slice none 0 0] 51)) ∨ (v0 = .int .i64 0∧0 < v∧∃ b cap:Nat,w.heap.size < b∧wr.cell? ⟨w.heap.size + 1,0,none⟩ = some (.bool false)∧wr.cell? ⟨w.heap.size + 1,1,none⟩ = some (.slice (some ⟨b,0,none⟩) 1 cap)∧wr.frozen? ⟨w.heap.size,0,none⟩ = false∧wr.frozen? ⟨w.heap.size,1,none⟩ = false∧(∃ x,wr.cell? ⟨w.heap.size,0,none⟩ = some x)∧(∃ x,wr.cell? ⟨w.heap.size,1,none⟩ = some x)∧Hid (Kept w wr)∧Hid (Sl wr (.slice (some ⟨b,0,none⟩) 1 cap) [v]))) (fun v0 _ => (intOf v0).toNat)
 case atStart => exact .inl ⟨rfl,rfl⟩
 case round =>
  rcases hrel with ⟨rfl,rfl⟩ | ⟨rfl,hv0,b,cap,hb,hc0,hc1,hf0,hf1,⟨x0,hx0⟩,⟨x1,hx1⟩,hk3,hsl⟩
  ·
   by_cases h0:v = 0
   ·
    subst h0
    go_wp2
    exact bodyPost_ret (v:=.agg #[.bool false,.slice none 0 0]) (by simp [results,Tryz.results25,go_sem]) rfl ⟨((Kept.refl w).alloc _).alloc _,none,0,0,[],rfl,Sl.nil _ _ _,.inl rfl,rfl,by simp⟩
   ·
    have h1:0 < v:=by omega
    go_wp2
    go_roundw
    case rel =>
     have hcap:=grownCap_ge w 1 0 3
     refine .inr ⟨by go_num,h1,w.heap.size + 1 + 1 + 1,grownCap w 1 0 3,by omega,?_,?_,?_,?_,?_,?_,(((((Kept.refl w).alloc _).alloc _).alloc _).alloc _).drew,(one_digit v h1 hv).1,_,_,rfl,fun _ => ⟨hcap,_,_,rfl,?_,fun j hj => ?_⟩⟩
     ·
      rw [(((Kept.refl ((w.alloc (Obj.cells #[.bool false,.slice none 0 0] 51)).alloc _)).alloc _).alloc _).drew.cells (w.heap.size + 1) _ (by simp)]; simp
     ·
      rw [(((Kept.refl ((w.alloc (Obj.cells #[.bool false,.slice none 0 0] 51)).alloc _)).alloc _).alloc _).drew.cells (w.heap.size + 1) _ (by simp)]; simp; rfl
     ·
      rw [((((Kept.refl (w.alloc (Obj.cells #[.bool false,.slice none 0 0] 51))).alloc _).alloc _).alloc _).drew.frozens _ _ (by simp)]; simp
     ·
      rw [((((Kept.refl (w.alloc (Obj.cells #[.bool false,.slice none 0 0] 51))).alloc _).alloc _).alloc _).drew.frozens _ _ (by simp)]; simp
     ·
      exact ⟨_,(box_kept (w:=w) ((((Kept.refl _).alloc _).alloc _).alloc _).drew).1⟩
     ·
      exact ⟨_,(box_kept (w:=w) ((((Kept.refl _).alloc _).alloc _).alloc _).drew).2⟩
     ·
      simp
     ·
      have:j = 0:=by simpa using hj
      subst this
      rw [show (v:Int) % 65536 = v by omega]
      refine Eq.trans (b:=((#[Value.int .i64 (v:Int)] ++ Builtin.zeroCells #[Value.int .i64 0] (grownCap w 1 0 3 - 1)):Array Value)[0]?) ?_ ?_
      ·
       exact World.cell?_alloc_at _ _ _ _ (by simp)
      ·
       rw [Array.getElem?_append_left (by simp)]; rfl
    case measure => simp [intOf]; omega
  ·
   go_wp2
   exact bodyPost_ret (v:=.agg #[.bool false,.slice (some ⟨b,0,none⟩) 1 cap]) (by simp [results,Tryz.results25,go_sem,hx0,hx1]) rfl ⟨(hk3.out.setCell (by simp) _).setCell (by simp) _,_,1,cap,[v],rfl,(hsl.out.far (by simp; omega) _).far (by simp; omega) _,(one_digit v hv0 hv).2.1,(one_digit v hv0 hv).2.2,by simp⟩
theorem Length_any (m:Bool) (ao:Option Addr) (n cap:Nat) (w:World) (hn:n≤100000000) :
  Calls Tryz.prog 53 #[.agg #[.bool m,.slice ao n cap]] w fun e w' => Kept w w'∧e = .returned (.int .i64 (((n + 1) / 2:Nat):Int)):=by
 go_enter Tryz.func53,Tryz.ntmps53
 go_wp2
 go_ret
 exact ⟨(Kept.refl w).alloc _,ret_i64 (by simp)⟩
def NIs (w:World) (s:Bool) (v:Value) (z:Int):Prop:=∃ l,Sl w v l∧Right s l∧int s l = z
theorem NIs.kept {w w':World} {s:Bool} {v:Value} {z:Int} (h:NIs w s v z) (k:Kept w w'):NIs w' s v z:=by
 obtain ⟨l,h1,h2⟩:=h
 exact ⟨l,h1.kept k,h2⟩
set_option maxHeartbeats 1000000 in
theorem Minus_any (m:Bool) (ao:Option Addr) (n cap:Nat) (z:Int) (w:World) (h:NIs w m (.slice ao n cap) z) (hn:n≤100000000) :
  Calls Tryz.prog 72 #[.agg #[.bool m,.slice ao n cap]] w fun e w' => Kept w w'∧∃ s ao' cap',e = .returned (.agg #[.bool s,.slice ao' n cap'])∧NIs w' s (.slice ao' n cap') (-z):=by
 obtain ⟨l,hsl,hr,hi⟩:=h
 have hlen:n = l.length:=by
  obtain ⟨_,_,_,hv,_⟩:=hsl
  simp only [Value.slice.injEq] at hv
  exact hv.2.1
 by_cases h0:n = 0
 ·
  subst h0
  have e:l = []:=List.length_eq_zero_iff.1 hlen.symm
  subst e
  have hz:z = 0:=by rw [← hi]; unfold int; cases m <;> simp [D.val]
  subst hz
  clear hsl hr hi hlen
  go_enter Tryz.func72,Tryz.ntmps72
  go_wp2
  exact bodyPost_ret (v:=.agg #[.bool false,.slice none 0 0]) (by simp [results,Tryz.results72,go_sem]) rfl ⟨((Kept.refl w).alloc _).alloc _,false,none,0,rfl,[],Sl.nil _ _ _,⟨D.Bd_nil,.inl rfl,fun _ => rfl⟩,rfl⟩
 ·
  have H:Hid (Sl w (.slice ao n cap) l∧Right (!m) l∧int (!m) l = -z):=by
   refine ⟨hsl,⟨hr.bd,hr.tr,fun e => ?_⟩,?_⟩
   ·
    rw [e] at hlen; simp at hlen; omega
   ·
    rw [← hi]; unfold int; cases m <;> simp
  clear hsl hr hi hlen
  go_enter Tryz.func72,Tryz.ntmps72
  go_wp2
  exact bodyPost_ret (v:=.agg #[.bool (!m),.slice ao n cap]) (by simp [results,Tryz.results72,go_sem]) rfl ⟨((Kept.refl w).alloc _).alloc _,_,_,_,rfl,l,H.out.1.kept (((Kept.refl w).alloc _).alloc _),H.out.2⟩
end D
end Go.Proofs.YtdcgdpbgnijnpaaGreat

namespace Go.Proofs.YtdcgdpbgnijnpaaGreat
open Go.RowKit
namespace D
theorem prod_step {b o:List Nat} {V x y i j c s:Nat} (hy:y = b.getD j 0) (hm:i + j < o.length) (hs:s = o.getD (i + j) 0 + x * y + c)
  (h:D.val o + 65536 ^ (i + j) * c = V + x * (65536 ^ i * D.val (b.take j))) :
  D.val (o.set (i + j) (s % 65536)) + 65536 ^ (i + (j + 1)) * (s / 65536) = V + x * (65536 ^ i * D.val (b.take (j + 1))):=by
 have h1:=val_set o (i + j) (s % 65536) hm
 rw [D.take_succ_getD,← hy,← Nat.add_assoc,Nat.pow_succ,Nat.mul_assoc]
 have e1:65536 ^ (i + j) * (s % 65536) + 65536 ^ (i + j) * (65536 * (s / 65536)) = 65536 ^ (i + j) * s:=by rw [← Nat.mul_add]; congr 1; omega
 have e2:65536 ^ (i + j) * s = 65536 ^ (i + j) * c + 65536 ^ (i + j) * (x * y) + 65536 ^ (i + j) * o.getD (i + j) 0:=by rw [hs,Nat.mul_add,Nat.mul_add]; omega
 have e3:x * (65536 ^ i * (D.val (b.take j) + 65536 ^ j * y)) = x * (65536 ^ i * D.val (b.take j)) + 65536 ^ (i + j) * (x * y):=by
  rw [Nat.mul_add,Nat.mul_add,Nat.pow_add]
  congr 1
  rw [← Nat.mul_assoc (65536 ^ i),Nat.mul_left_comm]
 omega
theorem prod_round {a b o:List Nat} {x i c:Nat} (hx:x = a.getD i 0) (hm:i + b.length < o.length) (hz:o.getD (i + b.length) 0 = 0)
  (h:D.val o + 65536 ^ (i + b.length) * c = D.val (a.take i) * D.val b + x * (65536 ^ i * D.val (b.take b.length))) :
  D.val (o.set (i + b.length) c) = D.val (a.take (i + 1)) * D.val b:=by
 have h1:=val_set o (i + b.length) c hm
 rw [hz] at h1
 rw [List.take_length] at h
 rw [D.take_succ_getD,← hx,Nat.add_mul]
 have e:65536 ^ i * x * D.val b = x * (65536 ^ i * D.val b):=by rw [Nat.mul_comm (65536 ^ i) x,Nat.mul_assoc]
 omega
theorem mul_bound {x y:Nat} (hx:x < 65536) (hy:y < 65536):x * y≤4294836225:=by
 have:=Nat.mul_le_mul (Nat.le_of_lt_succ hx) (Nat.le_of_lt_succ hy)
 exact this
set_option maxRecDepth 100000 in
set_option maxHeartbeats 4000000 in
theorem Times_raw (m n:Bool) (aoa aob:Option Addr) (capa capb:Nat) (a b:List Nat) (w:World) (ha:Sl w (.slice aoa a.length capa) a) (hb:Sl w (.slice aob b.length capb) b) (hla:a.length≤5000000) (hlb:b.length≤5000000) :
  Calls Tryz.prog 57 #[.agg #[.bool m,.slice aoa a.length capa],.agg #[.bool n,.slice aob b.length capb]] w fun e w' => Kept w w'∧∃ ao k cap l,e = .returned (.agg #[.bool ((m != n) && decide (0 < k)),.slice ao k cap])∧Sl w' (.slice ao k cap) l∧D.Tr l∧D.val l = D.val a * D.val b∧l.length≤a.length + b.length:=by
 have HA:Hid (Sl w (.slice aoa a.length capa) a):=ha
 have HB:Hid (Sl w (.slice aob b.length capb) b):=hb
 have bda:=ha.bd
 have bdb:=hb.bd
 have hmk:∀ w:World,(Instr.makeSlice 41 (.int .i64 ((a.length:Int) + (b.length:Int))) (.int .i64 ((a.length:Int) + (b.length:Int)))).run Tryz.prog w = .ok (.slice (some ⟨w.heap.size,0,none⟩) (a.length + b.length) (a.length + b.length)) (w.alloc (.cells (madeCells #[.int .i64 0] (a.length + b.length)) 3)):=fun w => by
  have h:=make_digits (a.length + b.length) (by omega) w
  rwa [show ((a.length + b.length:Nat):Int) = (a.length:Int) + (b.length:Int) by omega] at h
 clear ha hb
 go_enter Tryz.func57,Tryz.ntmps57
 go_wp2
 obtain ⟨W0,hW0⟩:∃ W0,W0 = (((w.alloc (Obj.cells #[.bool m,.slice aoa a.length capa] 51)).alloc (Obj.cells #[.bool n,.slice aob b.length capb] 51)).alloc (Obj.cells #[.bool false,.slice none 0 0] 51)):=⟨_,rfl⟩
 have hsz:W0.heap.size = w.heap.size + 1 + 1 + 1:=by rw [hW0]; simp
 have HW:Hid (W0 = (((w.alloc (Obj.cells #[.bool m,.slice aoa a.length capa] 51)).alloc (Obj.cells #[.bool n,.slice aob b.length capb] 51)).alloc (Obj.cells #[.bool false,.slice none 0 0] 51))):=hW0
 have HSZ:Hid (W0.heap.size = w.heap.size + 1 + 1 + 1):=hsz
 have HKW:Hid (Kept w W0):=by
  show Kept w W0
  rw [hW0]; exact (((Kept.refl w).alloc _).alloc _).alloc _
 have HM0:Hid ((W0.alloc (.cells (madeCells #[.int .i64 0] (a.length + b.length)) 3)).rowIs (w.heap.size + 1 + 1 + 1) 3 (a.length + b.length) (fun j => .int .i64 ((([]:List Nat).getD j 0:Nat):Int))):=by
  have:=row_made W0 (a.length + b.length)
  rw [hsz] at this
  exact this
 have hBX:∀ wr,Kept W0 wr→_:=fun wr hk => box_kept3 (hW0 ▸ hk)
 clear hsz
 go_loopw [6] (fun vi wr => ∃ (i:Nat) (o:List Nat),i≤a.length∧vi = .int .i64 i∧Hid (o.length = a.length + b.length∧D.Bd o∧(∀ j,i + b.length≤j→o.getD j 0 = 0)∧D.val o = D.val (a.take i) * D.val b) ∧
   Hid (wr.rowIs (w.heap.size + 1 + 1 + 1) 3 (a.length + b.length) (fun j => .int .i64 ((o.getD j 0:Nat):Int)))∧Hid (Kept W0 wr)) (fun vi _ => a.length - (intOf vi).toNat)
 case atStart =>
  rw [← hW0]
  refine ⟨0,List.replicate (a.length + b.length) 0,Nat.zero_le _,rfl,⟨by simp,Bd_replicate _,fun j _ => ?_,by rw [val_replicate]; simp [D.val]⟩,HM0.out.congr (fun j _ => ?_),(Kept.refl W0).alloc _⟩
  ·
   rw [List.getD_eq_getElem?_getD,List.getElem?_replicate]; split <;> rfl
  ·
   rw [List.getD_eq_getElem?_getD,List.getD_eq_getElem?_getD,List.getElem?_replicate]; split <;> rfl
 case round =>
  clear hmk
  obtain ⟨i,o,hi,rfl,ho,hrow,hkept⟩:=hrel
  obtain ⟨hA0,hA1,hB0,hB1,hR0,hR1⟩:=hBX _ hkept.out
  have HBX:Hid (∀ wr,Kept W0 wr→_):=hBX
  clear hW0 hBX
  by_cases hlt:i < a.length
  ·
   go_wp2
   go_loopw [7,8] (fun vc vj wr2 => ∃ (j c:Nat) (o:List Nat),j≤b.length∧c≤65535∧vj = .int .i64 j∧vc = .int .i64 c∧Hid (o.length = a.length + b.length∧D.Bd o∧(∀ j,i + b.length≤j→o.getD j 0 = 0)∧D.val o + 65536 ^ (i + j) * c = D.val (a.take i) * D.val b + (a.getD i 0) * (65536 ^ i * D.val (b.take j))) ∧
     Hid (wr2.rowIs (w.heap.size + 1 + 1 + 1) 3 (a.length + b.length) (fun j => .int .i64 ((o.getD j 0:Nat):Int)))∧Hid (Kept W0 wr2)) (fun _ vj _ => b.length - (intOf vj).toNat)
   case atStart => exact ⟨0,0,o,Nat.zero_le _,by omega,rfl,rfl,⟨ho.out.1,ho.out.2.1,ho.out.2.2.1,by rw [ho.out.2.2.2]; simp [D.val]⟩,hrow.out,hkept.out⟩
   case round =>
    clear ho hrow hkept hA0 hA1 hB0 hB1 hR0 hR1
    obtain ⟨j,c,o,hj,hc,rfl,rfl,ho,hrow,hkept⟩:=hrel
    obtain ⟨hA0,hA1,hB0,hB1,hR0,hR1⟩:=HBX.out _ hkept.out
    by_cases hjl:j < b.length
    ·
     obtain ⟨ba,oa,rfl,hcapa,hca⟩:=(HA.out.kept (HKW.out.trans hkept.out)).at hlt
     obtain ⟨bb,ob,rfl,hcapb,hcb⟩:=(HB.out.kept (HKW.out.trans hkept.out)).at hjl
     have hxb:=bda.getD i
     obtain ⟨x,hx⟩:∃ x,x = a.getD i 0:=⟨_,rfl⟩
     rw [← hx] at hca hxb
     have HX:Hid (x = a.getD i 0):=hx
     have hyb:=bdb.getD j
     obtain ⟨y,hy⟩:∃ y,y = b.getD j 0:=⟨_,rfl⟩
     rw [← hy] at hcb hyb
     have HY:Hid (y = b.getD j 0):=hy
     have hf:wr.frozen? ⟨w.heap.size + 1 + 1 + 1,i + j,none⟩ = false:=hrow.out.frozen _
     have hco:wr.cell? ⟨w.heap.size + 1 + 1 + 1,i + j,none⟩ = some (.int .i64 ((o.getD (i + j) 0:Nat):Int)):=hrow.out.cell (by omega)
     have hzb:=ho.out.2.1.getD (i + j)
     obtain ⟨z,hz⟩:∃ z,z = o.getD (i + j) 0:=⟨_,rfl⟩
     rw [← hz] at hco hzb
     have HZ:Hid (z = o.getD (i + j) 0):=hz
     have hxy:=mul_bound hxb hyb
     have hxy1:(x:Int) * (y:Int)≤4294836225:=by have:=Int.ofNat_le.2 hxy; simpa using this
     have hxy0:0≤(x:Int) * (y:Int):=by rw [← Int.natCast_mul]; exact Int.natCast_nonneg _
     clear hx hy hz hxy
     go_wp2
     go_quiet (fail)
     go_wp2
     go_roundw
     case rel =>
      have hxyn:x * y≤4294836225:=mul_bound hxb hyb
      have hm:i + j < o.length:=by rw [ho.out.1]; omega
      refine ⟨j + 1,(z + x * y + c) / 65536,o.set (i + j) ((z + x * y + c) % 65536),by omega,by omega,by go_num,?_,⟨by rw [List.length_set]; exact ho.out.1,Bd_set ho.out.2.1 _ _ (Nat.mod_lt _ (by decide)),fun j' hj' => ?_,?_⟩,
       row_set hrow.out (i + j) hm _ _ (by simp),(hkept.out.drewN nq).setCell (by have:=HSZ.out; simp; omega) _⟩
      ·
       simp
      ·
       rw [getD_set _ _ _ _ hm,if_neg (by omega)]; exact ho.out.2.2.1 j' hj'
      ·
       have h:=ho.out.2.2.2
       rw [← HX.out] at h ⊢
       exact prod_step HY.out hm (by rw [← HZ.out]) h
     case measure => simp [intOf]; omega
    ·
     obtain rfl:j = b.length:=by omega
     have hf:wr.frozen? ⟨w.heap.size + 1 + 1 + 1,i + b.length,none⟩ = false:=hrow.out.frozen _
     have hz0:o.getD (i + b.length) 0 = 0:=ho.out.2.2.1 _ (Nat.le_refl _)
     have hco:wr.cell? ⟨w.heap.size + 1 + 1 + 1,i + b.length,none⟩ = some (.int .i64 0):=by
      rw [hrow.out.cell (by omega),hz0]; rfl
     have hw1:IntKind.i64.wrap ((i:Int) + (b.length:Int)) = (i:Int) + (b.length:Int):=(by rw [IntKind.wrap_i64]; omega)
     have hw2:IntKind.i64.wrap (0 + (c:Int)) = c:=by rw [IntKind.wrap_i64]; omega
     have hb1:(0:Int)≤(i:Int) + (b.length:Int):=by omega
     have hb2:(i:Int) + (b.length:Int) < (a.length:Int) + (b.length:Int):=by omega
     have hb3:((i:Int) + (b.length:Int)).toNat = i + b.length:=by omega
     have hb4:i + b.length < a.length + b.length:=by omega
     clear hz0
     go_wp2
     go_region
     go_wp2
     go_roundw
     case rel =>
      have hm:i + b.length < o.length:=by rw [ho.out.1]; omega
      refine ⟨i + 1,o.set (i + b.length) c,by omega,by go_num,⟨by rw [List.length_set]; exact ho.out.1,Bd_set ho.out.2.1 _ _ (by omega),fun j' hj' => ?_,prod_round rfl hm (ho.out.2.2.1 _ (Nat.le_refl _)) ho.out.2.2.2⟩,row_set hrow.out _ hm _ _ (by simp),hkept.out.drew.setCell (by have:=HSZ.out; simp; omega) _⟩
      rw [getD_set _ _ _ _ hm,if_neg (by omega)]; exact ho.out.2.2.1 j' (by omega)
     case measure => simp [intOf]; omega
  ·
   obtain rfl:i = a.length:=by omega
   have hnew:=New.of_row (n:=a.length + b.length) hrow.out ho.out.2.1 ho.out.1.symm (Nat.le_refl _) (Nat.le_refl (w.heap.size + 1 + 1 + 1))
   have HN0:Hid (Sl wr (.slice (some ⟨w.heap.size + 1 + 1 + 1,0,none⟩) (a.length + b.length) (a.length + b.length)) o):=hnew.sl
   have HL:Hid (o.length = a.length + b.length):=ho.out.1
   have HV:Hid (D.val o = D.val a * D.val b):=by
    have:=ho.out.2.2.2
    rw [List.take_length] at this
    exact this
   clear hnew
   go_wp2_with fail
   refine (trim_any _ HN0.out (by have:=HL.out; omega)).mono ?_
   rintro e w1 ⟨rfl,v',l',rfl,hn',ht',hv',hl'⟩
   obtain ⟨hbd',ao',cap',rfl,hx'⟩:=hn'
   have HR:Hid (Sl w1 (.slice ao' l'.length cap') l'∧D.Tr l'∧D.val l' = D.val a * D.val b∧l'.length≤a.length + b.length):=⟨⟨hbd',ao',cap',rfl,hx'⟩,ht',by rw [hv',HV.out],by rw [← HL.out]; exact hl'⟩
   clear hx' ht' hv' hl' hbd'
   have hll:l'.length≤20000000:=by have:=HR.out.2.2.2; omega
   have hRf:∀ o,w1.frozen? ⟨w.heap.size + 1 + 1,o,none⟩ = false:=fun o => by rw [hkept.out.frozens _ _ (by rw [HSZ.out]; omega),HW.out]; exact World.frozen?_alloc_at _ _ _ _ (by simp)
   have HK:Hid (Kept w w1):=HKW.out.trans hkept.out
   rcases m with _ | _ <;> rcases n with _ | _
   all_goals
    go_wp2
    first
     | exact bodyPost_ret (v:=.agg #[.bool false,.slice ao' l'.length cap']) (by simp [results,Tryz.results57,go_sem,hR0,hR1]) rfl ⟨(HK.out.setCell (by simp; omega) _).setCell (by simp; omega) _,ao',_,cap',l',rfl,HR.out.1.box hR0 hR1 _ _,HR.out.2⟩
     | exact bodyPost_ret (v:=.agg #[.bool (decide (0 < l'.length)),.slice ao' l'.length cap']) (by simp [results,Tryz.results57,go_sem,hR0,hR1]) rfl ⟨(HK.out.setCell (by simp; omega) _).setCell (by simp; omega) _,ao',_,cap',l',by simp,HR.out.1.box hR0 hR1 _ _,HR.out.2⟩
end D
end Go.Proofs.YtdcgdpbgnijnpaaGreat

namespace Go.Proofs.YtdcgdpbgnijnpaaGreat
open Go.RowKit
namespace D
theorem Sl.len {w:World} {ao:Option Addr} {n cap:Nat} {l:List Nat} (h:Sl w (.slice ao n cap) l):n = l.length:=by
 obtain ⟨_,ao',cap',he,_⟩:=h
 simp only [Value.slice.injEq] at he
 exact he.2.1
theorem int_zero {m:Bool} {l:List Nat} (h:l.length = 0):int m l = 0:=by
 have:l = []:=List.length_eq_zero_iff.1 h
 subst this; cases m <;> rfl
theorem NIs.mk {w:World} {q:Bool} {ao:Option Addr} {k cap:Nat} {l:List Nat} {z:Int} (h:Sl w (.slice ao k cap) l) (ht:D.Tr l) (hz:int q l = z):NIs w (q && decide (0 < k)) (.slice ao k cap) z:=by
 have hk:=h.len
 refine ⟨l,h,⟨h.bd,ht,fun e => by rw [hk,e]; simp⟩,?_⟩
 by_cases h0:0 < k
 ·
  simpa [h0] using hz
 ·
  rw [int_zero (by omega),← hz,int_zero (by omega)]
theorem Times_any (m n:Bool) (aoa aob:Option Addr) (ka kb capa capb:Nat) (x y:Int) (w:World) (ha:NIs w m (.slice aoa ka capa) x) (hb:NIs w n (.slice aob kb capb) y) (hla:ka≤5000000) (hlb:kb≤5000000) :
  Calls Tryz.prog 57 #[.agg #[.bool m,.slice aoa ka capa],.agg #[.bool n,.slice aob kb capb]] w fun e w' => Kept w w'∧∃ s ao k cap,e = .returned (.agg #[.bool s,.slice ao k cap])∧NIs w' s (.slice ao k cap) (x * y)∧k≤ka + kb:=by
 obtain ⟨a,hsa,ra,rfl⟩:=ha
 obtain ⟨b,hsb,rb,rfl⟩:=hb
 have e1:=hsa.len
 have e2:=hsb.len
 subst e1 e2
 refine (Times_raw m n aoa aob capa capb a b w hsa hsb hla hlb).mono ?_
 rintro e w' ⟨hk,ao,k,cap,l,rfl,hs,ht,hv,hl⟩
 exact ⟨hk,_,_,_,_,rfl,NIs.mk hs ht (int_mul hv),by rw [hs.len]; exact hl⟩
theorem int_same {m:Bool} {a b l:List Nat} (h:D.val l = D.val a + D.val b):int m l = int m a + int m b:=by
 unfold int; cases m <;> simp [h]; omega
theorem int_lt {m n:Bool} {a b l:List Nat} (hmn:m ≠ n) (hc:D.val a≤D.val b) (h:D.val l = D.val b - D.val a):int n l = int m a + int n b:=by
 unfold int; cases m <;> cases n <;> simp at hmn ⊢ <;> omega
theorem int_ge {m n:Bool} {a b l:List Nat} (hmn:m ≠ n) (hc:D.val b≤D.val a) (h:D.val l = D.val a - D.val b):int m l = int m a + int n b:=by
 unfold int; cases m <;> cases n <;> simp at hmn ⊢ <;> omega
set_option maxRecDepth 100000 in
set_option maxHeartbeats 1000000 in
theorem Plus_same (m:Bool) (aoa aob:Option Addr) (capa capb:Nat) (a b:List Nat) (w:World) (ha:Sl w (.slice aoa a.length capa) a) (hb:Sl w (.slice aob b.length capb) b) (hla:a.length≤5000000) (hlb:b.length≤5000000) :
  Calls Tryz.prog 87 #[.agg #[.bool m,.slice aoa a.length capa],.agg #[.bool m,.slice aob b.length capb]] w fun e w' => Kept w w'∧∃ s ao k cap,e = .returned (.agg #[.bool s,.slice ao k cap])∧NIs w' s (.slice ao k cap) (int m a + int m b)∧k≤max a.length b.length + 1:=by
 have HA:Hid (Sl w (.slice aoa a.length capa) a):=ha
 have HB:Hid (Sl w (.slice aob b.length capb) b):=hb
 have K3:∀ x y z,Kept w (((w.alloc x).alloc y).alloc z):=fun x y z => (((Kept.refl w).alloc x).alloc y).alloc z
 clear ha hb
 go_enter Tryz.func87,Tryz.ntmps87
 go_wp2_with fail
 refine (plus_any _ _ a b _ (HA.out.kept (K3 _ _ _)) (HB.out.kept (K3 _ _ _)) hla hlb).mono ?_
 rintro e w1 ⟨hk,v',l',rfl,hs,ht,hv,hl⟩
 obtain ⟨hbd',ao',cap',rfl,hx'⟩:=hs
 have HR:Hid (Sl w1 (.slice ao' l'.length cap') l'∧D.Tr l'∧D.val l' = D.val a + D.val b∧l'.length≤max a.length b.length + 1):=⟨⟨hbd',ao',cap',rfl,hx'⟩,ht,hv,hl⟩
 obtain ⟨hA0,hA1,hB0,hB1,hR0,hR1⟩:=box_kept3 hk
 have hf:=hk.frozens
 have HK:Hid (Kept w w1):=(K3 _ _ _).trans hk
 have hll:l'.length≤20000000:=by omega
 clear hk hx' ht hv hl hbd' K3
 rcases m with _ | _
 all_goals
  go_wp2
  first
   | exact bodyPost_ret (v:=.agg #[.bool false,.slice ao' l'.length cap']) (by simp [results,Tryz.results87,go_sem,hR0,hR1]) rfl ⟨(HK.out.setCell (by simp; omega) _).setCell (by simp; omega) _,false && decide (0 < l'.length),ao',_,cap',rfl,NIs.mk (HR.out.1.box hR0 hR1 _ _) HR.out.2.1 (int_same HR.out.2.2.1),HR.out.2.2.2⟩
   | exact bodyPost_ret (v:=.agg #[.bool (decide (0 < l'.length)),.slice ao' l'.length cap']) (by simp [results,Tryz.results87,go_sem,hR0,hR1]) rfl ⟨(HK.out.setCell (by simp; omega) _).setCell (by simp; omega) _,true && decide (0 < l'.length),ao',_,cap',by simp,NIs.mk (HR.out.1.box hR0 hR1 _ _) HR.out.2.1 (int_same HR.out.2.2.1),HR.out.2.2.2⟩
set_option maxRecDepth 100000 in
set_option maxHeartbeats 2000000 in
theorem Plus_ge (m n:Bool) (aoa aob:Option Addr) (capa capb:Nat) (a b:List Nat) (w:World) (ha:Sl w (.slice aoa a.length capa) a) (hb:Sl w (.slice aob b.length capb) b) (hla:a.length≤5000000) (hlb:b.length≤5000000) (ta:D.Tr a) (tb:D.Tr b) (hmn:m ≠ n) (hle:D.val b≤D.val a) :
  Calls Tryz.prog 87 #[.agg #[.bool m,.slice aoa a.length capa],.agg #[.bool n,.slice aob b.length capb]] w fun e w' => Kept w w'∧∃ s ao k cap,e = .returned (.agg #[.bool s,.slice ao k cap])∧NIs w' s (.slice ao k cap) (int m a + int n b)∧k≤max a.length b.length + 1:=by
 have HA:Hid (Sl w (.slice aoa a.length capa) a):=ha
 have HB:Hid (Sl w (.slice aob b.length capb) b):=hb
 have HT:Hid (D.Tr a∧D.Tr b∧D.val b≤D.val a∧m ≠ n):=⟨ta,tb,hle,hmn⟩
 have hmn':(m == n) = false:=by simpa using hmn
 have K3:∀ x y z,Kept w (((w.alloc x).alloc y).alloc z):=fun x y z => (((Kept.refl w).alloc x).alloc y).alloc z
 clear ha hb ta tb hle hmn
 go_enter Tryz.func87,Tryz.ntmps87
 go_wp2_with fail
 refine (mags_any _ _ a b _ (HA.out.kept (K3 _ _ _)) (HB.out.kept (K3 _ _ _)) hla hlb HT.out.1 HT.out.2.1).mono ?_
 rintro e w0 ⟨rfl,nq,rfl⟩
 have hs:0≤sgn (D.val a) (D.val b):=by unfold sgn; have:=HT.out.2.2.1; split; omega; split <;> omega
 generalize sgn (D.val a) (D.val b) = r at *
 go_wp2_with fail
 refine (minus_any _ _ a b _ (HA.out.kept ((K3 _ _ _).drewN nq)) (HB.out.kept ((K3 _ _ _).drewN nq)) hla HT.out.2.2.1 (D.len_le_of_val_le HT.out.2.1 HA.out.bd HT.out.2.2.1)).mono ?_
 rintro e w1 ⟨hk,v',l',rfl,hs',ht,hv,hl⟩
 obtain ⟨hbd',ao',cap',rfl,hx'⟩:=hs'
 have HR:Hid (Sl w1 (.slice ao' l'.length cap') l'∧D.Tr l'∧D.val l' = D.val a - D.val b∧l'.length≤max a.length b.length + 1):=⟨⟨hbd',ao',cap',rfl,hx'⟩,ht,hv,by omega⟩
 obtain ⟨hA0,hA1,hB0,hB1,hR0,hR1⟩:=box_kept3 (((Kept.refl _).drewN nq).trans hk)
 have hf:=hk.frozens
 have HK:Hid (Kept w w1):=((K3 _ _ _).drewN nq).trans hk
 have hll:l'.length≤20000000:=by omega
 clear hk hx' ht hv hl hbd' K3
 rcases m with _ | _
 all_goals
  go_wp2
  first
   | exact bodyPost_ret (v:=.agg #[.bool false,.slice ao' l'.length cap']) (by simp [results,Tryz.results87,go_sem,hR0,hR1]) rfl ⟨(HK.out.setCell (by simp; omega) _).setCell (by simp; omega) _,false && decide (0 < l'.length),ao',_,cap',rfl,NIs.mk (HR.out.1.box hR0 hR1 _ _) HR.out.2.1 (int_ge HT.out.2.2.2 HT.out.2.2.1 HR.out.2.2.1),HR.out.2.2.2⟩
   | exact bodyPost_ret (v:=.agg #[.bool (decide (0 < l'.length)),.slice ao' l'.length cap']) (by simp [results,Tryz.results87,go_sem,hR0,hR1]) rfl ⟨(HK.out.setCell (by simp; omega) _).setCell (by simp; omega) _,true && decide (0 < l'.length),ao',_,cap',by simp,NIs.mk (HR.out.1.box hR0 hR1 _ _) HR.out.2.1 (int_ge HT.out.2.2.2 HT.out.2.2.1 HR.out.2.2.1),HR.out.2.2.2⟩
set_option maxRecDepth 100000 in
set_option maxHeartbeats 2000000 in
theorem Plus_lt (m n:Bool) (aoa aob:Option Addr) (capa capb:Nat) (a b:List Nat) (w:World) (ha:Sl w (.slice aoa a.length capa) a) (hb:Sl w (.slice aob b.length capb) b) (hla:a.length≤5000000) (hlb:b.length≤5000000) (ta:D.Tr a) (tb:D.Tr b) (hmn:m ≠ n) (hlt:D.val a < D.val b) :
  Calls Tryz.prog 87 #[.agg #[.bool m,.slice aoa a.length capa],.agg #[.bool n,.slice aob b.length capb]] w fun e w' => Kept w w'∧∃ s ao k cap,e = .returned (.agg #[.bool s,.slice ao k cap])∧NIs w' s (.slice ao k cap) (int m a + int n b)∧k≤max a.length b.length + 1:=by
 have HA:Hid (Sl w (.slice aoa a.length capa) a):=ha
 have HB:Hid (Sl w (.slice aob b.length capb) b):=hb
 have HT:Hid (D.Tr a∧D.Tr b∧D.val a < D.val b∧m ≠ n):=⟨ta,tb,hlt,hmn⟩
 have hmn':(m == n) = false:=by simpa using hmn
 have K3:∀ x y z,Kept w (((w.alloc x).alloc y).alloc z):=fun x y z => (((Kept.refl w).alloc x).alloc y).alloc z
 clear ha hb ta tb hlt hmn
 go_enter Tryz.func87,Tryz.ntmps87
 go_wp2_with fail
 refine (mags_any _ _ a b _ (HA.out.kept (K3 _ _ _)) (HB.out.kept (K3 _ _ _)) hla hlb HT.out.1 HT.out.2.1).mono ?_
 rintro e w0 ⟨rfl,nq,rfl⟩
 rw [sgn,if_pos HT.out.2.2.1]
 have hne1:w.heap.size + 1 + 1 ≠ w.heap.size:=by omega
 go_wp2_with fail
 go_region_held3 (fun w' => w'.cell? ⟨w.heap.size,1,none⟩ = some (.slice aoa a.length capa)∧w'.cell? ⟨w.heap.size + 1,0,none⟩ = some (.bool n)∧w'.cell? ⟨w.heap.size + 1,1,none⟩ = some (.slice aob b.length capb)) (go_keep) (first
  | (go_at_call 89; refine (minus_any _ _ b a _ ?_ ?_ hlb (Nat.le_of_lt HT.out.2.2.1) (D.len_le_of_val_le HT.out.1 HB.out.bd (Nat.le_of_lt HT.out.2.2.1))).mono ?_; exact HB.out.kept (((K3 _ _ _).drewN nq).drew); exact HA.out.kept (((K3 _ _ _).drewN nq).drew); rintro e w1 ⟨hk,v',l',rfl,hs',ht,hv,hl⟩; obtain ⟨hbd',ao',cap',rfl,hx'⟩:=hs'; obtain ⟨hA0,hA1,hB0,hB1,hR0,hR1⟩:=box_kept3 ((((Kept.refl _).drewN nq).drew).trans hk); have hf:=hk.frozens))
 have HR:Hid (Sl w1 (.slice ao' l'.length cap') l'∧D.Tr l'∧D.val l' = D.val b - D.val a∧l'.length≤max a.length b.length + 1):=⟨⟨hbd',ao',cap',rfl,hx'⟩,ht,hv,by omega⟩
 have HK:Hid (Kept w w1):=(((K3 _ _ _).drewN nq).drew).trans hk
 clear hk hx' ht hv hl hbd' K3
 go_wp2
 have hne:l' ≠ []:=fun e => by
  have h1:=HR.out.2.2.1
  have h2:=HT.out.2.2.1
  rw [e] at h1
  simp [D.val] at h1
  omega
 exact bodyPost_ret (v:=.agg #[.bool n,.slice ao' l'.length cap']) (by simp [results,Tryz.results87,go_sem,hR0,hR1]) rfl ⟨(HK.out.setCell (by simp; omega) _).setCell (by simp; omega) _,n,ao',_,cap',rfl,⟨l',HR.out.1.box hR0 hR1 _ _,⟨HR.out.1.bd,HR.out.2.1,fun e => absurd e hne⟩,int_lt HT.out.2.2.2 (Nat.le_of_lt HT.out.2.2.1) HR.out.2.2.1⟩,HR.out.2.2.2⟩
theorem Plus_any (m n:Bool) (aoa aob:Option Addr) (ka kb capa capb:Nat) (x y:Int) (w:World) (ha:NIs w m (.slice aoa ka capa) x) (hb:NIs w n (.slice aob kb capb) y) (hla:ka≤5000000) (hlb:kb≤5000000) :
  Calls Tryz.prog 87 #[.agg #[.bool m,.slice aoa ka capa],.agg #[.bool n,.slice aob kb capb]] w fun e w' => Kept w w'∧∃ s ao k cap,e = .returned (.agg #[.bool s,.slice ao k cap])∧NIs w' s (.slice ao k cap) (x + y)∧k≤max ka kb + 1:=by
 obtain ⟨a,hsa,ra,rfl⟩:=ha
 obtain ⟨b,hsb,rb,rfl⟩:=hb
 have e1:=hsa.len
 have e2:=hsb.len
 subst e1 e2
 by_cases h:m = n
 ·
  subst h
  exact Plus_same m aoa aob capa capb a b w hsa hsb hla hlb
 ·
  by_cases h2:D.val a < D.val b
  ·
   exact Plus_lt m n aoa aob capa capb a b w hsa hsb hla hlb ra.tr rb.tr h h2
  ·
   exact Plus_ge m n aoa aob capa capb a b w hsa hsb hla hlb ra.tr rb.tr h (by omega)
end D
end Go.Proofs.YtdcgdpbgnijnpaaGreat

namespace Go.Proofs.YtdcgdpbgnijnpaaGreat.D
open Go.RowKit
theorem fld1 (s:Bool) (ao:Option Addr) (n cap:Nat) (w:World):(Instr.field 51 (.agg #[.bool s,.slice ao n cap]) 1).run Tryz.prog w = .ok (.slice ao n cap) w:=by kernel_rfl
theorem half_step {lo hi q R B:Nat} (hq:q = (lo + hi + 1) / 2) (hlt:lo < hi) (hB:0 < B) (h1:lo≤R / B) (h2:R / B≤hi):(B * q≤R→q≤R / B∧R / B≤hi)∧(R < B * q→lo≤q - 1∧R / B≤q - 1):=by
 constructor
 ·
  intro h
  exact ⟨by rw [Nat.le_div_iff_mul_le hB,Nat.mul_comm]; exact h,h2⟩
 ·
  intro h
  have h3:R / B < q:=by rw [Nat.div_lt_iff_lt_mul hB,Nat.mul_comm]; exact h
  omega
set_option maxRecDepth 100000 in
set_option maxHeartbeats 2000000 in
theorem digit_any (aor aob:Option Addr) (capr capb:Nat) (r b:List Nat) (w:World) (hr:Sl w (.slice aor r.length capr) r) (hb:Sl w (.slice aob b.length capb) b) (hlr:r.length≤200000) (hlb:b.length≤200000) (tr:D.Tr r) (tb:D.Tr b) (hb0:0 < D.val b) (hlt:D.val r < 65536 * D.val b) :
  Calls Tryz.prog 88 #[.slice aor r.length capr,.slice aob b.length capb] w fun e w' => Kept w w'∧e = .returned (.int .i64 ((D.val r / D.val b:Nat):Int)):=by
 have HR:Hid (Sl w (.slice aor r.length capr) r∧D.Tr r):=⟨hr,tr⟩
 have HB:Hid (Sl w (.slice aob b.length capb) b∧D.Tr b):=⟨hb,tb⟩
 have HV:Hid (0 < D.val b∧D.val r < 65536 * D.val b):=⟨hb0,hlt⟩
 obtain ⟨g,hg⟩:∃ g,g = D.val r / D.val b:=⟨_,rfl⟩
 have HG:Hid (g = D.val r / D.val b∧g < 65536):=⟨hg,by rw [hg,Nat.div_lt_iff_lt_mul hb0]; exact hlt⟩
 rw [← hg]
 clear hr hb tr tb hb0 hlt hg
 by_cases hs:D.val r < D.val b
 ·
  have HS:Hid (sgn (D.val r) (D.val b) = -1∧g = 0):=⟨by unfold sgn; rw [if_pos hs],by rw [HG.out.1]; exact Nat.div_eq_of_lt hs⟩
  clear hs
  go_enter Tryz.func88,Tryz.ntmps88
  go_wp2_with fail
  refine (mags_any _ _ r b _ HR.out.1 HB.out.1 (by omega) (by omega) HR.out.2 HB.out.2).mono ?_
  rintro e w1 ⟨rfl,k1,rfl⟩
  rw [HS.out.1]
  go_wp2
  go_ret
  exact ⟨(Kept.refl w).drewN k1,by rw [HS.out.2]; rfl⟩
 ·
  have hsg:0≤sgn (D.val r) (D.val b):=by unfold sgn; split; omega; split <;> omega
  obtain ⟨sg,hsge⟩:∃ sg,sg = sgn (D.val r) (D.val b):=⟨_,rfl⟩
  rw [← hsge] at hsg
  have HSG:Hid (sg = sgn (D.val r) (D.val b)):=hsge
  clear hs hsge
  go_enter Tryz.func88,Tryz.ntmps88
  go_wp2_with fail
  refine (mags_any _ _ r b _ HR.out.1 HB.out.1 (by omega) (by omega) HR.out.2 HB.out.2).mono ?_
  rintro e w1 ⟨rfl,k1,rfl⟩
  rw [← HSG.out]
  go_wp2
  go_loopw [5,6] (fun vl vh wr => ∃ lo hi:Nat,lo≤hi∧hi≤65535∧vl = .int .i64 (lo:Int)∧vh = .int .i64 (hi:Int)∧Hid (lo≤g∧g≤hi)∧Hid (Kept w wr)) (fun vl vh _ => (intOf vh - intOf vl).toNat)
  case atStart => exact ⟨0,65535,by omega,by omega,rfl,rfl,⟨by omega,by have:=HG.out.2; omega⟩,(Kept.refl w).drewN k1⟩
  case round =>
   obtain ⟨lo,hi,h1,h2,rfl,rfl,hin,hk⟩:=hrel
   by_cases hlt:lo < hi
   ·
    obtain ⟨q,hq⟩:∃ q,q = (lo + hi + 1) / 2:=⟨_,rfl⟩
    have hq2:q≤65535:=by omega
    have hq3:lo < q:=by omega
    have hq4:q≤hi:=by omega
    have hqi:((lo:Int) + (hi:Int) + 1) / 2 = (q:Int):=by omega
    have HQ:Hid (q = (lo + hi + 1) / 2):=hq
    clear hq
    go_wp2_with fail
    refine (small_any q _ (by omega)).mono ?_
    rintro e w2 ⟨hk2,aos,ns,caps,ls,rfl,hs1,ht1,hv1,hl1⟩
    have e1:ns = ls.length:=by obtain ⟨_,_,_,he,_⟩:=hs1; simp only [Value.slice.injEq] at he; exact he.2.1
    subst e1
    have H2:Hid (Kept w w2∧Kept wr w2∧Sl w2 (.slice aos ls.length caps) ls∧D.val ls = q∧ls.length≤1):=⟨hk.out.trans hk2,hk2,hs1,hv1,hl1⟩
    clear hk2 hs1 ht1 hv1 hl1
    go_wp2_with fail
    refine (Times_raw false false aob aos capb caps b ls _ (HB.out.1.kept H2.out.1) H2.out.2.2.1 (by omega) (by have:=H2.out.2.2.2.2; omega)).mono ?_
    rintro e w3 ⟨hk3,aot,kt,capt,lt,rfl,hs3,ht3,hv3,hl3⟩
    have e3:kt = lt.length:=by obtain ⟨_,_,_,he,_⟩:=hs3; simp only [Value.slice.injEq] at he; exact he.2.1
    subst e3
    have hlt3:lt.length≤200001:=by have:=H2.out.2.2.2.2; omega
    have H3:Hid (Kept w w3∧Sl w3 (.slice aot lt.length capt) lt∧D.Tr lt∧D.val lt = D.val b * q):=⟨H2.out.1.trans hk3,hs3,ht3,by rw [hv3,H2.out.2.2.2.1]⟩
    clear hk3 hs3 ht3 hv3 hl3
    have hfd:=fld1 false aot lt.length capt
    go_wp2_with fail
    refine (mags_any _ _ lt r _ H3.out.2.1 (HR.out.1.kept H3.out.1) (by omega) (by omega) H3.out.2.2.1 HR.out.2).mono ?_
    rintro e w4 ⟨rfl,k4,rfl⟩
    have hst:=half_step HQ.out hlt HV.out.1 (by rw [← HG.out.1]; exact hin.out.1) (by rw [← HG.out.1]; exact hin.out.2)
    rw [← HG.out.1] at hst
    have HST:Hid ((D.val b * q≤D.val r→q≤g∧g≤hi)∧(D.val r < D.val b * q→lo≤q - 1∧g≤q - 1)):=hst
    rw [H3.out.2.2.2]
    clear hst
    by_cases hc:D.val b * q≤D.val r
    ·
     have hsg2:sgn (D.val b * q) (D.val r)≤0:=by unfold sgn; split; omega; split <;> omega
     have HC:Hid (D.val b * q≤D.val r):=hc
     generalize sgn (D.val b * q) (D.val r) = sg2 at *
     clear hc
     go_wp2
     go_roundw
     case rel => exact ⟨q,hi,hq4,h2,rfl,rfl,HST.out.1 HC.out,H3.out.1.drewN k4⟩
     case measure => simp [intOf]; omega
    ·
     have hsg2:0 < sgn (D.val b * q) (D.val r):=by unfold sgn; rw [if_neg (by omega),if_neg (by omega)]; decide
     have HC:Hid (D.val r < D.val b * q):=by show _ < _; omega
     generalize sgn (D.val b * q) (D.val r) = sg2 at *
     clear hc
     have hq5:1≤q:=by omega
     go_wp2
     go_roundw
     case rel => exact ⟨lo,q - 1,by omega,by omega,rfl,by go_num,⟨hin.out.1,(HST.out.2 HC.out).2⟩,H3.out.1.drewN k4⟩
     case measure => simp [intOf]; omega
   ·
    go_wp2
    go_ret
    exact ⟨hk.out,ret_i64 (by have:=hin.out; omega)⟩
end Go.Proofs.YtdcgdpbgnijnpaaGreat.D

namespace Go.Proofs.YtdcgdpbgnijnpaaGreat
open Go.RowKit
namespace D
set_option maxRecDepth 100000 in
set_option maxHeartbeats 1000000 in
theorem Small_new (v:Nat) (w:World) (hv:v < 65536) :
  Calls Tryz.prog 25 #[.int .i64 (v:Int)] w fun e w' => Kept w w'∧∃ ao n cap l,e = .returned (.agg #[.bool false,.slice ao n cap])∧Sl w' (.slice ao n cap) l∧D.Tr l∧D.val l = v∧l.length≤1∧(0 < n→∃ b,ao = some ⟨b,0,none⟩∧w.heap.size≤b):=by
 obtain ⟨i0,hi,hz0,hz1,hz2⟩:=info_parts infoI
 have hml:0 + 1≤maxLen:=by unfold maxLen; omega
 go_enter Tryz.func25,Tryz.ntmps25
 go_wp2
 go_loopw [0] (fun v0 wr => (v0 = .int .i64 (v:Int)∧wr = (w.alloc (Obj.cells #[.bool false,.slice none 0 0] 51)).alloc (Obj.cells #[.bool false,.slice none 0 0] 51)) ∨ (v0 = .int .i64 0∧0 < v∧∃ b cap:Nat,w.heap.size < b∧wr.cell? ⟨w.heap.size + 1,0,none⟩ = some (.bool false)∧wr.cell? ⟨w.heap.size + 1,1,none⟩ = some (.slice (some ⟨b,0,none⟩) 1 cap)∧wr.frozen? ⟨w.heap.size,0,none⟩ = false∧wr.frozen? ⟨w.heap.size,1,none⟩ = false∧(∃ x,wr.cell? ⟨w.heap.size,0,none⟩ = some x)∧(∃ x,wr.cell? ⟨w.heap.size,1,none⟩ = some x)∧Hid (Kept w wr)∧Hid (Sl wr (.slice (some ⟨b,0,none⟩) 1 cap) [v]))) (fun v0 _ => (intOf v0).toNat)
 case atStart => exact .inl ⟨rfl,rfl⟩
 case round =>
  rcases hrel with ⟨rfl,rfl⟩ | ⟨rfl,hv0,b,cap,hb,hc0,hc1,hf0,hf1,⟨x0,hx0⟩,⟨x1,hx1⟩,hk3,hsl⟩
  ·
   by_cases h0:v = 0
   ·
    subst h0
    go_wp2
    exact bodyPost_ret (v:=.agg #[.bool false,.slice none 0 0]) (by simp [results,Tryz.results25,go_sem]) rfl ⟨((Kept.refl w).alloc _).alloc _,none,0,0,[],rfl,Sl.nil _ _ _,.inl rfl,rfl,by simp,fun h => absurd h (by decide)⟩
   ·
    have h1:0 < v:=by omega
    go_wp2
    go_roundw
    case rel =>
     have hcap:=grownCap_ge w 1 0 3
     refine .inr ⟨by go_num,h1,w.heap.size + 1 + 1 + 1,grownCap w 1 0 3,by omega,?_,?_,?_,?_,?_,?_,(((((Kept.refl w).alloc _).alloc _).alloc _).alloc _).drew,(one_digit v h1 hv).1,_,_,rfl,fun _ => ⟨hcap,_,_,rfl,?_,fun j hj => ?_⟩⟩
     ·
      rw [(((Kept.refl ((w.alloc (Obj.cells #[.bool false,.slice none 0 0] 51)).alloc _)).alloc _).alloc _).drew.cells (w.heap.size + 1) _ (by simp)]; simp
     ·
      rw [(((Kept.refl ((w.alloc (Obj.cells #[.bool false,.slice none 0 0] 51)).alloc _)).alloc _).alloc _).drew.cells (w.heap.size + 1) _ (by simp)]; simp; rfl
     ·
      rw [((((Kept.refl (w.alloc (Obj.cells #[.bool false,.slice none 0 0] 51))).alloc _).alloc _).alloc _).drew.frozens _ _ (by simp)]; simp
     ·
      rw [((((Kept.refl (w.alloc (Obj.cells #[.bool false,.slice none 0 0] 51))).alloc _).alloc _).alloc _).drew.frozens _ _ (by simp)]; simp
     ·
      exact ⟨_,(box_kept (w:=w) ((((Kept.refl _).alloc _).alloc _).alloc _).drew).1⟩
     ·
      exact ⟨_,(box_kept (w:=w) ((((Kept.refl _).alloc _).alloc _).alloc _).drew).2⟩
     ·
      simp
     ·
      have:j = 0:=by simpa using hj
      subst this
      rw [show (v:Int) % 65536 = v by omega]
      refine Eq.trans (b:=((#[Value.int .i64 (v:Int)] ++ Builtin.zeroCells #[Value.int .i64 0] (grownCap w 1 0 3 - 1)):Array Value)[0]?) ?_ ?_
      ·
       exact World.cell?_alloc_at _ _ _ _ (by simp)
      ·
       rw [Array.getElem?_append_left (by simp)]; rfl
    case measure => simp [intOf]; omega
  ·
   go_wp2
   exact bodyPost_ret (v:=.agg #[.bool false,.slice (some ⟨b,0,none⟩) 1 cap]) (by simp [results,Tryz.results25,go_sem,hx0,hx1]) rfl ⟨(hk3.out.setCell (by simp) _).setCell (by simp) _,_,1,cap,[v],rfl,(hsl.out.far (by simp; omega) _).far (by simp; omega) _,(one_digit v hv0 hv).2.1,(one_digit v hv0 hv).2.2,by simp,fun _ => ⟨b,rfl,by omega⟩⟩
end D
end Go.Proofs.YtdcgdpbgnijnpaaGreat

namespace Go.Proofs.YtdcgdpbgnijnpaaGreat
open Go.RowKit
namespace D
theorem pow_two (n:Nat):65536 ^ (2 * n) = 4294967296 ^ n:=by
 rw [Nat.pow_mul]
theorem pack_step {d o:List Nat} {i x y:Nat} (hi:i = 2 * o.length) (hx:x = d.getD i 0) (hy:y = d.getD (i + 1) 0) (h:M.val o = D.val (d.take i)):M.val (o ++ [x + y * 65536]) = D.val (d.take (i + 2)):=by
 rw [M.val_snoc,h,D.take_succ_getD,D.take_succ_getD,← hx,← hy,Nat.pow_succ,hi,pow_two,Nat.mul_add,Nat.mul_assoc,Nat.mul_comm 65536 y]
 omega
theorem tr_of_val {o:List Nat} (hb:M.Bd o) (h:0 < o.length→4294967296 ^ (o.length - 1)≤M.val o):M.Tr o:=by
 by_cases h0:o.length = 0
 ·
  exact .inl h0
 ·
  right
  intro e
  have h1:=h (by omega)
  have h2:M.val o = M.val (o.take (o.length - 1)):=by
   have h3:=M.take_succ_getD o (o.length - 1)
   rw [e,show o.length - 1 + 1 = o.length by omega,List.take_length] at h3
   simpa using h3
  have h3:=M.val_lt (hb.take (o.length - 1))
  rw [List.length_take,Nat.min_eq_left (by omega)] at h3
  omega
theorem pack_tr {d o:List Nat} (hb:M.Bd o) (hl:o.length = (d.length + 1) / 2) (hv:M.val o = D.val d) (ht:D.Tr d):M.Tr o:=by
 refine tr_of_val hb (fun h0 => ?_)
 have hd0:d.length ≠ 0:=by omega
 have h1:=D.val_ge ht (fun e => hd0 (by simp [e]))
 rw [hv]
 refine Nat.le_trans ?_ h1
 rw [← pow_two]
 exact Nat.pow_le_pow_right (by decide) (by omega)
theorem own_shape {w:World} {B:Nat} {t:TypeId} {s:Nat} {v:Value} {n:Nat} {xs:List Value} (h:w.ownsRow B t s v n xs):∃ ao cap,v = .slice ao n cap:=by
 obtain ⟨_,⟨rfl,rfl⟩ | ⟨b,N,cur,rfl,_⟩⟩:=h
 ·
  exact ⟨_,_,rfl⟩
 ·
  exact ⟨_,_,rfl⟩
theorem own_ne {w:World} {B:Nat} {t:TypeId} {s:Nat} {v:Value} {n:Nat} {xs:List Value} (h:w.ownsRow B t s v n xs) {b:Nat} (hb:b < B):v.ownBlock = none ∨ v.ownBlock ≠ some b:=by
 cases hv:v.ownBlock with
 | none => exact .inl rfl
 | some k =>
  right
  have:=(h.lt k hv).1
  intro e
  cases e
  omega
theorem Kept.mono3 {a b c:World} {B:Nat} (h:Kept a b) (k:Below B b c) (hB:a.heap.size≤B):Kept a c:=Below.trans h (Below.mono k hB)
set_option maxRecDepth 100000 in
set_option maxHeartbeats 4000000 in
theorem Give_any (m:Bool) (ao:Option Addr) (capd:Nat) (d:List Nat) (w:World) (hd:Sl w (.slice ao d.length capd) d) (ht:D.Tr d) (hl:d.length≤10000) :
  Calls Tryz.prog 12 #[.agg #[.bool m,.slice ao d.length capd]] w fun e w' => Kept w w'∧∃ ao' n cap l,e = .returned (.agg #[.bool m,.slice ao' n cap])∧Go.Proofs.YtdcgdpbgnijnpaaGreat.New w.heap.size w' (.slice ao' n cap) l∧M.Tr l∧M.val l = D.val d∧l.length = (d.length + 1) / 2:=by
 have HD:Hid (Sl w (.slice ao d.length capd) d∧D.Tr d):=⟨hd,ht⟩
 have bdd:=hd.bd
 obtain ⟨i0,hi,hz0,hz1,hz2⟩:=info_parts Tryz.info40
 clear hd ht
 go_enter Tryz.func12,Tryz.ntmps12
 go_wp2
 go_loopw [4] (fun vi wr => ∃ (i:Nat) (o:List Nat) (ao':Option Addr) (cap:Nat),vi = .int .i64 (i:Int)∧i≤d.length + 1∧wr.cell? ⟨w.heap.size + 1 + 1,0,none⟩ = some (.bool m)∧wr.cell? ⟨w.heap.size + 1 + 1,1,none⟩ = some (.slice ao' o.length cap)∧wr.frozen? ⟨w.heap.size + 1 + 1,1,none⟩ = false ∧
   Hid (i = 2 * o.length∧M.Bd o∧M.val o = D.val (d.take i))∧Hid (wr.ownsRow (w.heap.size + 1 + 1 + 1) 40 1 (.slice ao' o.length cap) o.length (Go.Proofs.YtdcgdpbgnijnpaaGreat.us o)) ∧
   Hid (Kept ((w.alloc (Obj.cells #[.bool m,.slice ao d.length capd] 51)).alloc (Obj.cells #[.bool false,.slice none 0 0] 37)) wr∧w.heap.size + 1 + 1 + 1≤wr.heap.size)) (fun vi _ => d.length + 2 - (intOf vi).toNat)
 case atStart => exact ⟨0,[],none,0,rfl,by omega,World.cell?_alloc_at _ _ _ _ (by simp),World.cell?_alloc_at _ _ _ _ (by simp),World.frozen?_alloc_at _ _ _ _ (by simp),⟨rfl,M.Bd_nil,rfl⟩,World.ownsRow_nil _ _ _ _,(Kept.refl _).alloc _,by simp⟩
 case round =>
  obtain ⟨i,o,ao',cap,rfl,hi1,hc0,hc1,hfz,ho,hown,hkept⟩:=hrel
  obtain ⟨hA0,hA1,hB0,hB1⟩:=box_kept2 hkept.out.1
  have hKW:Kept w wr:=(((Kept.refl w).alloc _).alloc _).trans hkept.out.1
  have hwb:∀ x,w.heap.size + 1 + 1 + 1≤(wr.alloc x).heap.size:=fun x => by have:=hkept.out.2; simp; omega
  have hol:2 * o.length≤d.length + 1:=by have:=ho.out.1; omega
  have hml:o.length + 1≤maxLen:=by unfold maxLen; omega
  by_cases hlt:i < d.length
  ·
   obtain ⟨bd,od,rfl,hcapd,hcd⟩:=(HD.out.1.kept hKW).at hlt
   have hxb:=bdd.getD i
   obtain ⟨x,hx⟩:∃ x,x = d.getD i 0:=⟨_,rfl⟩
   rw [← hx] at hcd hxb
   have HX:Hid (x = d.getD i 0):=hx
   clear hx
   by_cases hlt2:i + 1 < d.length
   ·
    obtain ⟨bd2,od2,he2,_,hcd2⟩:=(HD.out.1.kept hKW).at hlt2
    simp only [Option.some.injEq,Addr.mk.injEq] at he2
    obtain ⟨rfl,rfl,_⟩:=he2
    have hyb:=bdd.getD (i + 1)
    obtain ⟨y,hy⟩:∃ y,y = d.getD (i + 1) 0:=⟨_,rfl⟩
    rw [← hy] at hcd2 hyb
    have HY:Hid (y = d.getD (i + 1) 0):=hy
    clear hy hKW
    go_wp2_with (at_builtin; refine wpList_append_own _ rfl _ _ 35 rfl (w.heap.size + 1 + 1 + 1) 40 i0 (.int .u32 0) 1 4 Tryz.underlying35 hi hz0 hz1 hz2 rfl (by decide) _ _ _ rfl (hown.out.alloc _) ⟨wr.heap.size,0,none⟩ 1 1 [.int .u32 ((x:Int) + (y:Int) * 65536)] rfl rfl (cell_new wr _ _) (fun u hu => by simp at hu; subst hu; rfl) (by omega) (by omega) (by exact hwb _) ?_)
    intro v' w3 hown' hgrow _
    have hB3:Below (w.heap.size + 1 + 1 + 1) wr w3:=Below.grown ((Below.refl _ wr).alloc hkept.out.2 _) hgrow (by exact hwb _) (fun j hj => (hown.out.lt j hj).1)
    have hown3:w3.ownsRow (w.heap.size + 1 + 1 + 1) 40 1 v' (o.length + 1) (Go.Proofs.YtdcgdpbgnijnpaaGreat.us (o ++ [x + y * 65536])):=by
     rw [Go.Proofs.YtdcgdpbgnijnpaaGreat.us_snoc,show ((x + y * 65536:Nat):Int) = (x:Int) + (y:Int) * 65536 by omega]; exact hown'
    obtain ⟨ao3,cap3,rfl⟩:∃ ao3 cap3,v' = .slice ao3 (o.length + 1) cap3:=own_shape hown3
    have H3:Hid (w3.ownsRow (w.heap.size + 1 + 1 + 1) 40 1 (.slice ao3 (o.length + 1) cap3) (o.length + 1) (Go.Proofs.YtdcgdpbgnijnpaaGreat.us (o ++ [x + y * 65536]))∧Below (w.heap.size + 1 + 1 + 1) wr w3):=⟨hown3,hB3⟩
    have gc0:=(Below.cell hB3 (p:=⟨w.heap.size + 1 + 1,0,none⟩) (by simp)).trans hc0
    have gc1:=(Below.cell hB3 (p:=⟨w.heap.size + 1 + 1,1,none⟩) (by simp)).trans hc1
    have gfz:=(Below.frozen hB3 (p:=⟨w.heap.size + 1 + 1,1,none⟩) (by simp)).trans hfz
    clear hown' hgrow hwb hown3 hB3 hc0 hc1 hfz
    go_wp2
    go_roundw
    case rel =>
     have hps:=pack_step (y:=y) ho.out.1 HX.out HY.out ho.out.2.2
     refine ⟨i + 2,o ++ [x + y * 65536],ao3,cap3,by go_num,by omega,?_,?_,?_,⟨by rw [List.length_append,ho.out.1,List.length_singleton]; omega,ho.out.2.1.snoc (by omega),hps⟩,?_,?_,?_⟩
     ·
      rw [World.cell?_setCell_other _ _ _ _ (by simp)]; exact gc0
     ·
      rw [List.length_append]; exact World.cell?_setCell_same _ _ _ gc1
     ·
      rw [World.frozen?_setCell]; exact gfz
     ·
      rw [List.length_append]
      exact H3.out.1.kept (grown_set (World.grownBy.refl _ _) _ _) (own_ne H3.out.1 (b:=w.heap.size + 1 + 1) (by omega))
     ·
      exact (Kept.mono3 hkept.out.1 H3.out.2 (by simp)).setCell (by simp) _
     ·
      rw [World.size_setCell]; exact Nat.le_trans hkept.out.2 H3.out.2.size
    case measure => simp [intOf]; omega
   ·
    have HY:Hid (0 = d.getD (i + 1) 0):=(getD_out hlt2).symm
    clear hKW
    go_wp2_with (at_builtin; refine wpList_append_own _ rfl _ _ 35 rfl (w.heap.size + 1 + 1 + 1) 40 i0 (.int .u32 0) 1 4 Tryz.underlying35 hi hz0 hz1 hz2 rfl (by decide) _ _ _ rfl (hown.out.alloc _) ⟨wr.heap.size,0,none⟩ 1 1 [.int .u32 ((x:Int))] rfl rfl (cell_new wr _ _) (fun u hu => by simp at hu; subst hu; rfl) (by omega) (by omega) (by exact hwb _) ?_)
    intro v' w3 hown' hgrow _
    have hB3:Below (w.heap.size + 1 + 1 + 1) wr w3:=Below.grown ((Below.refl _ wr).alloc hkept.out.2 _) hgrow (by exact hwb _) (fun j hj => (hown.out.lt j hj).1)
    have hown3:w3.ownsRow (w.heap.size + 1 + 1 + 1) 40 1 v' (o.length + 1) (Go.Proofs.YtdcgdpbgnijnpaaGreat.us (o ++ [x])):=by
     rw [Go.Proofs.YtdcgdpbgnijnpaaGreat.us_snoc,show ((x:Nat):Int) = (x:Int) by omega]; exact hown'
    obtain ⟨ao3,cap3,rfl⟩:∃ ao3 cap3,v' = .slice ao3 (o.length + 1) cap3:=own_shape hown3
    have H3:Hid (w3.ownsRow (w.heap.size + 1 + 1 + 1) 40 1 (.slice ao3 (o.length + 1) cap3) (o.length + 1) (Go.Proofs.YtdcgdpbgnijnpaaGreat.us (o ++ [x]))∧Below (w.heap.size + 1 + 1 + 1) wr w3):=⟨hown3,hB3⟩
    have gc0:=(Below.cell hB3 (p:=⟨w.heap.size + 1 + 1,0,none⟩) (by simp)).trans hc0
    have gc1:=(Below.cell hB3 (p:=⟨w.heap.size + 1 + 1,1,none⟩) (by simp)).trans hc1
    have gfz:=(Below.frozen hB3 (p:=⟨w.heap.size + 1 + 1,1,none⟩) (by simp)).trans hfz
    clear hown' hgrow hwb hown3 hB3 hc0 hc1 hfz
    go_wp2
    go_roundw
    case rel =>
     have hps:=pack_step (y:=0) ho.out.1 HX.out HY.out ho.out.2.2
     refine ⟨i + 2,o ++ [x],ao3,cap3,by go_num,by omega,?_,?_,?_,⟨by rw [List.length_append,ho.out.1,List.length_singleton]; omega,ho.out.2.1.snoc (by omega),by simpa using hps⟩,?_,?_,?_⟩
     ·
      rw [World.cell?_setCell_other _ _ _ _ (by simp)]; exact gc0
     ·
      rw [List.length_append]; exact World.cell?_setCell_same _ _ _ gc1
     ·
      rw [World.frozen?_setCell]; exact gfz
     ·
      rw [List.length_append]
      exact H3.out.1.kept (grown_set (World.grownBy.refl _ _) _ _) (own_ne H3.out.1 (b:=w.heap.size + 1 + 1) (by omega))
     ·
      exact (Kept.mono3 hkept.out.1 H3.out.2 (by simp)).setCell (by simp) _
     ·
      rw [World.size_setCell]; exact Nat.le_trans hkept.out.2 H3.out.2.size
    case measure => simp [intOf]; omega
  ·
   have HV:Hid (M.val o = D.val d∧o.length = (d.length + 1) / 2):=by
    refine ⟨?_,by have:=ho.out.1; omega⟩
    have:=ho.out.2.2
    rwa [List.take_of_length_le (by omega)] at this
   have hRf:∀ j,wr.frozen? ⟨w.heap.size + 1,j,none⟩ = false:=fun j => by rw [hkept.out.1.frozens _ _ (by simp)]; simp
   have HN:Hid (Go.Proofs.YtdcgdpbgnijnpaaGreat.New (w.heap.size + 1 + 1 + 1) wr (.slice ao' o.length cap) o):=Go.Proofs.YtdcgdpbgnijnpaaGreat.New.of_owns hown.out ho.out.2.1
   have HK:Hid (Kept w wr):=hKW
   clear hwb hKW
   go_wp2
   exact bodyPost_ret (v:=.agg #[.bool m,.slice ao' o.length cap]) (by simp [results,Tryz.results12,go_sem,hB0,hB1]) rfl ⟨(HK.out.setCell (by simp) _).setCell (by simp) _,ao',_,cap,o,rfl,((HN.out.other (by simp) _).other (by simp) _).mono (by omega),pack_tr ho.out.2.1 HV.out.2 HV.out.1 HD.out.2,HV.out⟩
end D
end Go.Proofs.YtdcgdpbgnijnpaaGreat

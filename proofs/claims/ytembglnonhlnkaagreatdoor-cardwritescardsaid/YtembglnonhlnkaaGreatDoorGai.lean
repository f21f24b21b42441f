/- Small, Length, Minus of package shuntref01. Times of package shuntref01: the product of two numbers. Plus, Less, Times of package shuntref01, as whole numbers with signs. digit of shuntref01: one digit of a quotient, by halving. Give, told of package shuntref01: a number as limbs. Wide of package shuntref01: any int64 as a number. told of package shuntref01: a number as an answer. -/
import Derived.Test.YtembglnonhlnkaaGreatDoorGah
import Derived.Test.YtembglnonhlnkaaGreatDoorGae
import Derived.Test.YtembglnonhlnkaaGreatDoorGaf
namespace Go.Proofs.YtembglnonhlnkaaGreatDoor
open Go.RowKit
namespace D
theorem one_digit (v:Nat) (h0:0 < v) (hv:v < 65536):D.Bd [v]∧D.Tr [v]∧D.val [v] = v :=
 ⟨fun x hx => by simp at hx; omega,.inr (by simpa using Nat.ne_of_gt h0),by simp [D.val]⟩
theorem Sl.far {w:World} {b off n cap:Nat} {l:List Nat} (h:Sl w (.slice (some ⟨b,off,none⟩) n cap) l) {p:Addr} (hp:p.block ≠ b) (u:Value):Sl (w.setCell p u) (.slice (some ⟨b,off,none⟩) n cap) l:=by
 obtain ⟨hb,ao,cap',hv,hx⟩:=h
 simp only [Value.slice.injEq] at hv
 obtain ⟨rfl,rfl,rfl⟩:=hv
 refine ⟨hb,_,cap,rfl,fun h0 => ?_⟩
 obtain ⟨h1,b',off',e,hlt,hc⟩:=hx h0
 simp only [Option.some.injEq,Addr.mk.injEq] at e
 obtain ⟨rfl,rfl,_⟩:=e
 exact ⟨h1,b,off,rfl,by rw [World.size_setCell]; exact hlt,fun j hj => by rw [World.cell?_setCell_far _ _ _ _ hp]; exact hc j hj⟩
theorem Sl.box {w:World} {v:Value} {l:List Nat} {b:Nat} {q:Bool} {ao:Option Addr} {n cap:Nat} (h:Sl w v l) (h0:w.cell? ⟨b,0,none⟩ = some (.bool q)) (h1:w.cell? ⟨b,1,none⟩ = some (.slice ao n cap)) (x y:Value):Sl ((w.setCell ⟨b,0,none⟩ x).setCell ⟨b,1,none⟩ y) v l:=by
 obtain ⟨hb,ao,cap',rfl,hx⟩:=h
 refine ⟨hb,ao,cap',rfl,fun hl => ?_⟩
 obtain ⟨k1,b',off',rfl,hlt,hc⟩:=hx hl
 refine ⟨k1,b',off',rfl,by rw [World.size_setCell,World.size_setCell]; exact hlt,fun j hj => ?_⟩
 rw [World.cell?_setCell_other _ _ _ _ (fun e => by have:=hc j hj; rw [← e,h1] at this; simp at this),World.cell?_setCell_other _ _ _ _ (fun e => by have:=hc j hj; rw [← e,h0] at this; simp at this)]
 exact hc j hj
set_option maxRecDepth 100000 in
set_option maxHeartbeats 1000000 in
theorem small_any (v:Nat) (w:World) (hv:v < 65536) :
  Calls Tryz.prog 68 #[.int .i64 (v:Int)] w fun e w' => Kept w w'∧∃ ao n cap l,e = .returned (.agg #[.bool false,.slice ao n cap])∧Sl w' (.slice ao n cap) l∧D.Tr l∧D.val l = v∧l.length≤1:=by
 obtain ⟨i0,hi,hz0,hz1,hz2⟩:=info_parts infoI
 have hml:0 + 1≤maxLen:=by unfold maxLen; omega
 go_enter Tryz.func68,Tryz.ntmps68
 go_wp2
 go_loopw [0] (fun v0 wr => (v0 = .int .i64 (v:Int)∧wr = (w.alloc (Obj.cells #[.bool false,.slice none 0 0] 87)).alloc (Obj.cells #[.bool false,.slice none 0 0] 87)) ∨ (v0 = .int .i64 0∧0 < v∧∃ b cap:Nat,w.heap.size < b∧wr.cell? ⟨w.heap.size + 1,0,none⟩ = some (.bool false)∧wr.cell? ⟨w.heap.size + 1,1,none⟩ = some (.slice (some ⟨b,0,none⟩) 1 cap)∧wr.frozen? ⟨w.heap.size,0,none⟩ = false∧wr.frozen? ⟨w.heap.size,1,none⟩ = false∧(∃ x,wr.cell? ⟨w.heap.size,0,none⟩ = some x)∧(∃ x,wr.cell? ⟨w.heap.size,1,none⟩ = some x)∧Hid (Kept w wr)∧Hid (Sl wr (.slice (some ⟨b,0,none⟩) 1 cap) [v]))) (fun v0 _ => (intOf v0).toNat)
 case atStart => exact .inl ⟨rfl,rfl⟩
 case round =>
  rcases hrel with ⟨rfl,rfl⟩ | ⟨rfl,hv0,b,cap,hb,hc0,hc1,hf0,hf1,⟨x0,hx0⟩,⟨x1,hx1⟩,hk3,hsl⟩
  ·
   by_cases h0:v = 0
   ·
    subst h0
    go_wp2
    exact bodyPost_ret (v:=.agg #[.bool false,.slice none 0 0]) (by simp [results,Tryz.results68,go_sem]) rfl ⟨((Kept.refl w).alloc _).alloc _,none,0,0,[],rfl,Sl.nil _ _ _,.inl rfl,rfl,by simp⟩
   ·
    have h1:0 < v:=by omega
    go_wp2
    go_roundw
    case rel =>
     have hcap:=grownCap_ge w 1 0 3
     refine .inr ⟨by go_num,h1,w.heap.size + 1 + 1 + 1,grownCap w 1 0 3,by omega,?_,?_,?_,?_,?_,?_,(((((Kept.refl w).alloc _).alloc _).alloc _).alloc _).drew,(one_digit v h1 hv).1,_,_,rfl,fun _ => ⟨hcap,_,_,rfl,?_,fun j hj => ?_⟩⟩
     ·
      rw [(((Kept.refl ((w.alloc (Obj.cells #[.bool false,.slice none 0 0] 87)).alloc _)).alloc _).alloc _).drew.cells (w.heap.size + 1) _ (by simp)]; simp
     ·
      rw [(((Kept.refl ((w.alloc (Obj.cells #[.bool false,.slice none 0 0] 87)).alloc _)).alloc _).alloc _).drew.cells (w.heap.size + 1) _ (by simp)]; simp; rfl
     ·
      rw [((((Kept.refl (w.alloc (Obj.cells #[.bool false,.slice none 0 0] 87))).alloc _).alloc _).alloc _).drew.frozens _ _ (by simp)]; simp
     ·
      rw [((((Kept.refl (w.alloc (Obj.cells #[.bool false,.slice none 0 0] 87))).alloc _).alloc _).alloc _).drew.frozens _ _ (by simp)]; simp
     ·
      exact ⟨_,(box_kept (w:=w) ((((Kept.refl _).alloc _).alloc _).alloc _).drew).1⟩
     ·
      exact ⟨_,(box_kept (w:=w) ((((Kept.refl _).alloc _).alloc _).alloc _).drew).2⟩
     ·
      simp
     ·
      have:j = 0:=by simpa using hj
      subst this
      rw [show (v:Int) % 65536 = v by omega]
      refine Eq.trans (b:=((#[Value.int .i64 (v:Int)] ++ Builtin.zeroCells #[Value.int .i64 0] (grownCap w 1 0 3 - 1)):Array Value)[0]?) ?_ ?_
      ·
       exact World.cell?_alloc_at _ _ _ _ (by simp)
      ·
       rw [Array.getElem?_append_left (by simp)]; rfl
    case measure => simp [intOf]; omega
  ·
   go_wp2
   exact bodyPost_ret (v:=.agg #[.bool false,.slice (some ⟨b,0,none⟩) 1 cap]) (by simp [results,Tryz.results68,go_sem,hx0,hx1]) rfl ⟨(hk3.out.setCell (by simp) _).setCell (by simp) _,_,1,cap,[v],rfl,(hsl.out.far (by simp; omega) _).far (by simp; omega) _,(one_digit v hv0 hv).2.1,(one_digit v hv0 hv).2.2,by simp⟩
def NIs (w:World) (s:Bool) (v:Value) (z:Int):Prop:=∃ l,Sl w v l∧Right s l∧int s l = z
theorem NIs.kept {w w':World} {s:Bool} {v:Value} {z:Int} (h:NIs w s v z) (k:Kept w w'):NIs w' s v z:=by
 obtain ⟨l,h1,h2⟩:=h
 exact ⟨l,h1.kept k,h2⟩
end D
end Go.Proofs.YtembglnonhlnkaaGreatDoor

namespace Go.Proofs.YtembglnonhlnkaaGreatDoor
open Go.RowKit
namespace D
theorem prod_step {b o:List Nat} {V x y i j c s:Nat} (hy:y = b.getD j 0) (hm:i + j < o.length) (hs:s = o.getD (i + j) 0 + x * y + c)
  (h:D.val o + 65536 ^ (i + j) * c = V + x * (65536 ^ i * D.val (b.take j))) :
  D.val (o.set (i + j) (s % 65536)) + 65536 ^ (i + (j + 1)) * (s / 65536) = V + x * (65536 ^ i * D.val (b.take (j + 1))):=by
 have h1:=val_set o (i + j) (s % 65536) hm
 rw [D.take_succ_getD,← hy,← Nat.add_assoc,Nat.pow_succ,Nat.mul_assoc]
 have e1:65536 ^ (i + j) * (s % 65536) + 65536 ^ (i + j) * (65536 * (s / 65536)) = 65536 ^ (i + j) * s:=by rw [← Nat.mul_add]; congr 1; omega
 have e2:65536 ^ (i + j) * s = 65536 ^ (i + j) * c + 65536 ^ (i + j) * (x * y) + 65536 ^ (i + j) * o.getD (i + j) 0:=by rw [hs,Nat.mul_add,Nat.mul_add]; omega
 have e3:x * (65536 ^ i * (D.val (b.take j) + 65536 ^ j * y)) = x * (65536 ^ i * D.val (b.take j)) + 65536 ^ (i + j) * (x * y):=by
  rw [Nat.mul_add,Nat.mul_add,Nat.pow_add]
  congr 1
  rw [← Nat.mul_assoc (65536 ^ i),Nat.mul_left_comm]
 omega
theorem prod_round {a b o:List Nat} {x i c:Nat} (hx:x = a.getD i 0) (hm:i + b.length < o.length) (hz:o.getD (i + b.length) 0 = 0)
  (h:D.val o + 65536 ^ (i + b.length) * c = D.val (a.take i) * D.val b + x * (65536 ^ i * D.val (b.take b.length))) :
  D.val (o.set (i + b.length) c) = D.val (a.take (i + 1)) * D.val b:=by
 have h1:=val_set o (i + b.length) c hm
 rw [hz] at h1
 rw [List.take_length] at h
 rw [D.take_succ_getD,← hx,Nat.add_mul]
 have e:65536 ^ i * x * D.val b = x * (65536 ^ i * D.val b):=by rw [Nat.mul_comm (65536 ^ i) x,Nat.mul_assoc]
 omega
theorem mul_bound {x y:Nat} (hx:x < 65536) (hy:y < 65536):x * y≤4294836225:=by
 have:=Nat.mul_le_mul (Nat.le_of_lt_succ hx) (Nat.le_of_lt_succ hy)
 exact this
end D
end Go.Proofs.YtembglnonhlnkaaGreatDoor

namespace Go.Proofs.YtembglnonhlnkaaGreatDoor
open Go.RowKit
namespace D
theorem Sl.len {w:World} {ao:Option Addr} {n cap:Nat} {l:List Nat} (h:Sl w (.slice ao n cap) l):n = l.length:=by
 obtain ⟨_,ao',cap',he,_⟩:=h
 simp only [Value.slice.injEq] at he
 exact he.2.1
theorem int_zero {m:Bool} {l:List Nat} (h:l.length = 0):int m l = 0:=by
 have:l = []:=List.length_eq_zero_iff.1 h
 subst this; cases m <;> rfl
theorem NIs.mk {w:World} {q:Bool} {ao:Option Addr} {k cap:Nat} {l:List Nat} {z:Int} (h:Sl w (.slice ao k cap) l) (ht:D.Tr l) (hz:int q l = z):NIs w (q && decide (0 < k)) (.slice ao k cap) z:=by
 have hk:=h.len
 refine ⟨l,h,⟨h.bd,ht,fun e => by rw [hk,e]; simp⟩,?_⟩
 by_cases h0:0 < k
 ·
  simpa [h0] using hz
 ·
  rw [int_zero (by omega),← hz,int_zero (by omega)]
end D
end Go.Proofs.YtembglnonhlnkaaGreatDoor

namespace Go.Proofs.YtembglnonhlnkaaGreatDoor.D
open Go.RowKit
end Go.Proofs.YtembglnonhlnkaaGreatDoor.D

namespace Go.Proofs.YtembglnonhlnkaaGreatDoor
open Go.RowKit
namespace D
theorem own_shape {w:World} {B:Nat} {t:TypeId} {s:Nat} {v:Value} {n:Nat} {xs:List Value} (h:w.ownsRow B t s v n xs):∃ ao cap,v = .slice ao n cap:=by
 obtain ⟨_,⟨rfl,rfl⟩ | ⟨b,N,cur,rfl,_⟩⟩:=h
 ·
  exact ⟨_,_,rfl⟩
 ·
  exact ⟨_,_,rfl⟩
theorem own_ne {w:World} {B:Nat} {t:TypeId} {s:Nat} {v:Value} {n:Nat} {xs:List Value} (h:w.ownsRow B t s v n xs) {b:Nat} (hb:b < B):v.ownBlock = none ∨ v.ownBlock ≠ some b:=by
 cases hv:v.ownBlock with
 | none => exact .inl rfl
 | some k =>
  right
  have:=(h.lt k hv).1
  intro e
  cases e
  omega
theorem Kept.mono3 {a b c:World} {B:Nat} (h:Kept a b) (k:Below B b c) (hB:a.heap.size≤B):Kept a c:=Below.trans h (Below.mono k hB)
end D
end Go.Proofs.YtembglnonhlnkaaGreatDoor

namespace Go.Proofs.YtembglnonhlnkaaGreatDoor
open Go.RowKit
namespace D
theorem wide_step {o:List Nat} {u U:Nat} (h:D.val o + 65536 ^ o.length * u = U):D.val (o ++ [u % 65536]) + 65536 ^ (o ++ [u % 65536]).length * (u / 65536) = U:=by
 rw [D.val_snoc,List.length_append,List.length_singleton,Nat.pow_succ,Nat.mul_assoc,Nat.add_assoc,← Nat.mul_add,Nat.mod_add_div]
 exact h
theorem wide_tr {o:List Nat} {u:Nat} (hu:0 < u) (h0:u / 65536 = 0):D.Tr (o ++ [u % 65536]):=by
 right
 simp [List.getD_eq_getElem?_getD]
 omega
theorem wide_len {o:List Nat} {u U:Nat} (hu:0 < u) (hU:U < 18446744073709551616) (h:D.val o + 65536 ^ o.length * u = U):o.length < 4:=by
 have h1:65536 ^ o.length * 1≤65536 ^ o.length * u:=Nat.mul_le_mul_left _ hu
 have h2:65536 ^ o.length < 65536 ^ 4:=by
  have:(65536:Nat) ^ 4 = 18446744073709551616:=by decide
  omega
 exact (Nat.pow_lt_pow_iff_right (by decide)).1 h2
set_option maxRecDepth 100000 in
set_option maxHeartbeats 4000000 in
theorem wide_pos (U:Nat) (w:World) (hlo:True) (hU:U≤9223372036854775807) :
  Calls Tryz.prog 90 #[.int .i64 (U:Int)] w fun e w' => Kept w w'∧∃ ao k cap,e = .returned (.agg #[.bool false,.slice ao k cap])∧NIs w' false (.slice ao k cap) (U:Int)∧k≤4:=by
 obtain ⟨i0,hi,hz0,hz1,hz2⟩:=info_parts infoI
 have hw0:IntKind.u64.wrap (U:Int) = (U:Int):=by simp only [IntKind.wrap_u64]; omega
 have hng:0≤(U:Int):=by omega
 have hU2:U < 18446744073709551616:=by omega
 have HLO:Hid (True):=hlo
 go_enter Tryz.func90,Tryz.ntmps90
 go_wp2
 go_loopw [4] (fun vi wr => ∃ (u:Nat) (o:List Nat) (ao':Option Addr) (cap:Nat),vi = .int .u64 (u:Int)∧u≤U∧wr.cell? ⟨w.heap.size + 1,0,none⟩ = some (.bool false)∧wr.cell? ⟨w.heap.size + 1,1,none⟩ = some (.slice ao' o.length cap)∧wr.frozen? ⟨w.heap.size + 1,1,none⟩ = false ∧
   Hid (D.Bd o∧D.val o + 65536 ^ o.length * u = U∧(u = 0→D.Tr o))∧Hid (wr.ownsRow (w.heap.size + 1 + 1) 3 1 (.slice ao' o.length cap) o.length (us o)) ∧
   Hid (Kept (w.alloc (Obj.cells #[.bool false,.slice none 0 0] 87)) wr∧w.heap.size + 1 + 1≤wr.heap.size)) (fun vi _ => (intOf vi).toNat)
 case atStart => exact ⟨U,[],none,0,rfl,Nat.le_refl _,World.cell?_alloc_at _ _ _ _ (by simp),World.cell?_alloc_at _ _ _ _ (by simp),World.frozen?_alloc_at _ _ _ _ (by simp),⟨D.Bd_nil,by simp [D.val],fun _ => .inl rfl⟩,World.ownsRow_nil _ _ _ _,(Kept.refl _).alloc _,by simp⟩
 case round =>
  obtain ⟨u,o,ao',cap,rfl,huU,hc0,hc1,hfz,ho,hown,hkept⟩:=hrel
  have hwb:∀ x,w.heap.size + 1 + 1≤(wr.alloc x).heap.size:=fun x => by have:=hkept.out.2; simp; omega
  by_cases h0:0 < u
  ·
   have hol:=wide_len h0 hU2 ho.out.2.1
   have hml:o.length + 1≤maxLen:=by unfold maxLen; omega
   have h0':(0:Int) < (u:Int):=by omega
   go_wp2_with (at_builtin; refine wpList_append_own _ rfl _ _ 28 rfl (w.heap.size + 1 + 1) 3 i0 (.int .i64 0) 1 8 Tryz.underlying28 hi hz0 hz1 hz2 rfl (by decide) _ _ _ rfl (hown.out.alloc _) ⟨wr.heap.size,0,none⟩ 1 1 [.int .i64 ((u:Int) % 65536)] rfl rfl (cell_new wr _ _) (fun u hu => by simp at hu; subst hu; rfl) (by omega) (by omega) (by exact hwb _) ?_)
   intro v' w3 hown' hgrow _
   have hB3:Below (w.heap.size + 1 + 1) wr w3:=Below.grown ((Below.refl _ wr).alloc hkept.out.2 _) hgrow (by exact hwb _) (fun j hj => (hown.out.lt j hj).1)
   have hown3:w3.ownsRow (w.heap.size + 1 + 1) 3 1 v' (o.length + 1) (us (o ++ [u % 65536])):=by
    rw [us_snoc,show ((u % 65536:Nat):Int) = (u:Int) % 65536 by omega]; exact hown'
   obtain ⟨ao3,cap3,rfl⟩:∃ ao3 cap3,v' = .slice ao3 (o.length + 1) cap3:=own_shape hown3
   have H3:Hid (w3.ownsRow (w.heap.size + 1 + 1) 3 1 (.slice ao3 (o.length + 1) cap3) (o.length + 1) (us (o ++ [u % 65536]))∧Below (w.heap.size + 1 + 1) wr w3):=⟨hown3,hB3⟩
   have gc0:=(Below.cell hB3 (p:=⟨w.heap.size + 1,0,none⟩) (by simp)).trans hc0
   have gc1:=(Below.cell hB3 (p:=⟨w.heap.size + 1,1,none⟩) (by simp)).trans hc1
   have gfz:=(Below.frozen hB3 (p:=⟨w.heap.size + 1,1,none⟩) (by simp)).trans hfz
   clear hown' hgrow hwb hown3 hB3 hc0 hc1 hfz
   go_wp2
   go_roundw
   case rel =>
    refine ⟨u / 65536,o ++ [u % 65536],ao3,cap3,by go_num,by omega,?_,?_,?_,⟨ho.out.1.snoc (by exact Nat.mod_lt _ (by decide)),by exact wide_step ho.out.2.1,fun e => by exact wide_tr h0 e⟩,?_,?_,?_⟩
    ·
     rw [World.cell?_setCell_other _ _ _ _ (by simp)]; exact gc0
    ·
     rw [List.length_append]; exact World.cell?_setCell_same _ _ _ gc1
    ·
     rw [World.frozen?_setCell]; exact gfz
    ·
     rw [List.length_append]
     exact H3.out.1.kept (grown_set (World.grownBy.refl _ _) _ _) (own_ne H3.out.1 (b:=w.heap.size + 1) (by omega))
    ·
     exact (Kept.mono3 hkept.out.1 H3.out.2 (by simp)).setCell (by simp) _
    ·
     rw [World.size_setCell]; exact Nat.le_trans hkept.out.2 H3.out.2.size
   case measure => simp [intOf]; omega
  ·
   have hu0:u = 0:=by omega
   subst hu0
   have HT:Hid (D.Tr o∧D.val o = U):=⟨ho.out.2.2 rfl,by have:=ho.out.2.1; simpa using this⟩
   have hol:o.length≤4:=D.len_of_lt HT.out.1 (by rw [HT.out.2,show (65536:Nat) ^ 4 = 18446744073709551616 from rfl]; omega)
   have hk:=hkept.out.1
   obtain ⟨hR0,hR1⟩:=box_kept hk
   have hfr:=hk.frozens
   have HN:Hid (New (w.heap.size + 1 + 1) wr (.slice ao' o.length cap) o):=New.of_owns hown.out ho.out.1
   have HK:Hid (Kept w wr):=((Kept.refl w).alloc _).trans hk
   clear hwb hk
   go_wp2
   exact bodyPost_ret (v:=.agg #[.bool false,.slice ao' o.length cap]) (by simp [results,Tryz.results90,go_sem,hR0,hR1]) rfl ⟨(HK.out.setCell (by simp) _).setCell (by simp) _,ao',_,cap,rfl,⟨o,HN.out.sl.box hR0 hR1 _ _,⟨ho.out.1,HT.out.1,by first | exact fun _ => rfl | exact fun e => by have h5:=HT.out.2; rw [e] at h5; simp only [D.val] at h5; have h6:=HLO.out; omega⟩,by unfold int; rw [HT.out.2]; simp⟩,hol⟩
set_option maxRecDepth 100000 in
set_option maxHeartbeats 4000000 in
theorem wide_neg (U:Nat) (w:World) (hlo:0 < U) (hU:U≤9223372036854775808) :
  Calls Tryz.prog 90 #[.int .i64 (-(U:Int))] w fun e w' => Kept w w'∧∃ ao k cap,e = .returned (.agg #[.bool true,.slice ao k cap])∧NIs w' true (.slice ao k cap) (-(U:Int))∧k≤4:=by
 obtain ⟨i0,hi,hz0,hz1,hz2⟩:=info_parts infoI
 have hw0:IntKind.u64.wrap (-IntKind.u64.wrap (-(U:Int))) = (U:Int):=by simp only [IntKind.wrap_u64]; omega
 have hng:-(U:Int) < 0:=by omega
 have hU2:U < 18446744073709551616:=by omega
 have HLO:Hid (0 < U):=hlo
 go_enter Tryz.func90,Tryz.ntmps90
 go_wp2
 go_loopw [4] (fun vi wr => ∃ (u:Nat) (o:List Nat) (ao':Option Addr) (cap:Nat),vi = .int .u64 (u:Int)∧u≤U∧wr.cell? ⟨w.heap.size + 1,0,none⟩ = some (.bool true)∧wr.cell? ⟨w.heap.size + 1,1,none⟩ = some (.slice ao' o.length cap)∧wr.frozen? ⟨w.heap.size + 1,1,none⟩ = false ∧
   Hid (D.Bd o∧D.val o + 65536 ^ o.length * u = U∧(u = 0→D.Tr o))∧Hid (wr.ownsRow (w.heap.size + 1 + 1) 3 1 (.slice ao' o.length cap) o.length (us o)) ∧
   Hid (Kept (w.alloc (Obj.cells #[.bool false,.slice none 0 0] 87)) wr∧w.heap.size + 1 + 1≤wr.heap.size)) (fun vi _ => (intOf vi).toNat)
 case atStart => exact ⟨U,[],none,0,rfl,Nat.le_refl _,World.cell?_alloc_at _ _ _ _ (by simp),World.cell?_alloc_at _ _ _ _ (by simp),World.frozen?_alloc_at _ _ _ _ (by simp),⟨D.Bd_nil,by simp [D.val],fun _ => .inl rfl⟩,World.ownsRow_nil _ _ _ _,(Kept.refl _).alloc _,by simp⟩
 case round =>
  obtain ⟨u,o,ao',cap,rfl,huU,hc0,hc1,hfz,ho,hown,hkept⟩:=hrel
  have hwb:∀ x,w.heap.size + 1 + 1≤(wr.alloc x).heap.size:=fun x => by have:=hkept.out.2; simp; omega
  by_cases h0:0 < u
  ·
   have hol:=wide_len h0 hU2 ho.out.2.1
   have hml:o.length + 1≤maxLen:=by unfold maxLen; omega
   have h0':(0:Int) < (u:Int):=by omega
   go_wp2_with (at_builtin; refine wpList_append_own _ rfl _ _ 28 rfl (w.heap.size + 1 + 1) 3 i0 (.int .i64 0) 1 8 Tryz.underlying28 hi hz0 hz1 hz2 rfl (by decide) _ _ _ rfl (hown.out.alloc _) ⟨wr.heap.size,0,none⟩ 1 1 [.int .i64 ((u:Int) % 65536)] rfl rfl (cell_new wr _ _) (fun u hu => by simp at hu; subst hu; rfl) (by omega) (by omega) (by exact hwb _) ?_)
   intro v' w3 hown' hgrow _
   have hB3:Below (w.heap.size + 1 + 1) wr w3:=Below.grown ((Below.refl _ wr).alloc hkept.out.2 _) hgrow (by exact hwb _) (fun j hj => (hown.out.lt j hj).1)
   have hown3:w3.ownsRow (w.heap.size + 1 + 1) 3 1 v' (o.length + 1) (us (o ++ [u % 65536])):=by
    rw [us_snoc,show ((u % 65536:Nat):Int) = (u:Int) % 65536 by omega]; exact hown'
   obtain ⟨ao3,cap3,rfl⟩:∃ ao3 cap3,v' = .slice ao3 (o.length + 1) cap3:=own_shape hown3
   have H3:Hid (w3.ownsRow (w.heap.size + 1 + 1) 3 1 (.slice ao3 (o.length + 1) cap3) (o.length + 1) (us (o ++ [u % 65536]))∧Below (w.heap.size + 1 + 1) wr w3):=⟨hown3,hB3⟩
   have gc0:=(Below.cell hB3 (p:=⟨w.heap.size + 1,0,none⟩) (by simp)).trans hc0
   have gc1:=(Below.cell hB3 (p:=⟨w.heap.size + 1,1,none⟩) (by simp)).trans hc1
   have gfz:=(Below.frozen hB3 (p:=⟨w.heap.size + 1,1,none⟩) (by simp)).trans hfz
   clear hown' hgrow hwb hown3 hB3 hc0 hc1 hfz
   go_wp2
   go_roundw
   case rel =>
    refine ⟨u / 65536,o ++ [u % 65536],ao3,cap3,by go_num,by omega,?_,?_,?_,⟨ho.out.1.snoc (by exact Nat.mod_lt _ (by decide)),by exact wide_step ho.out.2.1,fun e => by exact wide_tr h0 e⟩,?_,?_,?_⟩
    ·
     rw [World.cell?_setCell_other _ _ _ _ (by simp)]; exact gc0
    ·
     rw [List.length_append]; exact World.cell?_setCell_same _ _ _ gc1
    ·
     rw [World.frozen?_setCell]; exact gfz
    ·
     rw [List.length_append]
     exact H3.out.1.kept (grown_set (World.grownBy.refl _ _) _ _) (own_ne H3.out.1 (b:=w.heap.size + 1) (by omega))
    ·
     exact (Kept.mono3 hkept.out.1 H3.out.2 (by simp)).setCell (by simp) _
    ·
     rw [World.size_setCell]; exact Nat.le_trans hkept.out.2 H3.out.2.size
   case measure => simp [intOf]; omega
  ·
   have hu0:u = 0:=by omega
   subst hu0
   have HT:Hid (D.Tr o∧D.val o = U):=⟨ho.out.2.2 rfl,by have:=ho.out.2.1; simpa using this⟩
   have hol:o.length≤4:=D.len_of_lt HT.out.1 (by rw [HT.out.2,show (65536:Nat) ^ 4 = 18446744073709551616 from rfl]; omega)
   have hk:=hkept.out.1
   obtain ⟨hR0,hR1⟩:=box_kept hk
   have hfr:=hk.frozens
   have HN:Hid (New (w.heap.size + 1 + 1) wr (.slice ao' o.length cap) o):=New.of_owns hown.out ho.out.1
   have HK:Hid (Kept w wr):=((Kept.refl w).alloc _).trans hk
   clear hwb hk
   go_wp2
   exact bodyPost_ret (v:=.agg #[.bool true,.slice ao' o.length cap]) (by simp [results,Tryz.results90,go_sem,hR0,hR1]) rfl ⟨(HK.out.setCell (by simp) _).setCell (by simp) _,ao',_,cap,rfl,⟨o,HN.out.sl.box hR0 hR1 _ _,⟨ho.out.1,HT.out.1,by first | exact fun _ => rfl | exact fun e => by have h5:=HT.out.2; rw [e] at h5; simp only [D.val] at h5; have h6:=HLO.out; omega⟩,by unfold int; rw [HT.out.2]; simp⟩,hol⟩
theorem wide_any (v:Int) (w:World) (h1:-9223372036854775808≤v) (h2:v≤9223372036854775807) :
  Calls Tryz.prog 90 #[.int .i64 v] w fun e w' => Kept w w'∧∃ s ao k cap,e = .returned (.agg #[.bool s,.slice ao k cap])∧NIs w' s (.slice ao k cap) v∧k≤4:=by
 by_cases h:0≤v
 ·
  obtain ⟨U,rfl⟩:=Int.eq_ofNat_of_zero_le h
  refine (wide_pos U w trivial (by omega)).mono ?_
  rintro e w' ⟨hk,ao,k,cap,rfl,hN⟩
  exact ⟨hk,_,_,_,_,rfl,hN⟩
 ·
  obtain ⟨U,hU⟩:=Int.eq_ofNat_of_zero_le (show 0≤-v by omega)
  have e:v = -(U:Int):=by omega
  subst e
  refine (wide_neg U w (by omega) (by omega)).mono ?_
  rintro e w' ⟨hk,ao,k,cap,rfl,hN⟩
  exact ⟨hk,_,_,_,_,rfl,hN⟩
end D
end Go.Proofs.YtembglnonhlnkaaGreatDoor

namespace Go.Proofs.YtembglnonhlnkaaGreatDoor
open Go.RowKit
namespace D
def FinX (w:World) (s:Bool) (v:Value) (c z:Int):Prop:=(c = 0∧∃ l,Go.Proofs.YtembglnonhlnkaaGreatDoor.Sl w v l∧M.Right s l∧M.int s l = z) ∨ (c = 13∧s = false∧v = .slice none 0 0∧M.W72≤z.natAbs)
theorem FinX.kept {w w':World} {s:Bool} {v:Value} {c z:Int} (h:FinX w s v c z) (k:Kept w w'):FinX w' s v c z:=by
 rcases h with ⟨hc,l,h1,h2⟩ | h
 ·
  exact .inl ⟨hc,l,h1.kept k,h2⟩
 ·
  exact .inr h
end D
end Go.Proofs.YtembglnonhlnkaaGreatDoor

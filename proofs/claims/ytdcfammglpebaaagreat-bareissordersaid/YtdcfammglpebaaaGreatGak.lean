/- Small, Length, Minus of package shuntref01. Times of package shuntref01: the product of two numbers. Plus, Less, Times of package shuntref01, as whole numbers with signs. -/
import Derived.Test.YtdcfammglpebaaaGreatGaj
import Derived.Test.YtdcfammglpebaaaGreatGaf
import Derived.Test.YtdcfammglpebaaaGreatGag
namespace Go.Proofs.YtdcfammglpebaaaGreat
open Go.RowKit
namespace D
theorem one_digit (v:Nat) (h0:0 < v) (hv:v < 65536):D.Bd [v]∧D.Tr [v]∧D.val [v] = v :=
 ⟨fun x hx => by simp at hx; omega,.inr (by simpa using Nat.ne_of_gt h0),by simp [D.val]⟩
theorem Sl.far {w:World} {b off n cap:Nat} {l:List Nat} (h:Sl w (.slice (some ⟨b,off,none⟩) n cap) l) {p:Addr} (hp:p.block ≠ b) (u:Value):Sl (w.setCell p u) (.slice (some ⟨b,off,none⟩) n cap) l:=by
 obtain ⟨hb,ao,cap',hv,hx⟩:=h
 simp only [Value.slice.injEq] at hv
 obtain ⟨rfl,rfl,rfl⟩:=hv
 refine ⟨hb,_,cap,rfl,fun h0 => ?_⟩
 obtain ⟨h1,b',off',e,hlt,hc⟩:=hx h0
 simp only [Option.some.injEq,Addr.mk.injEq] at e
 obtain ⟨rfl,rfl,_⟩:=e
 exact ⟨h1,b,off,rfl,by rw [World.size_setCell]; exact hlt,fun j hj => by rw [World.cell?_setCell_far _ _ _ _ hp]; exact hc j hj⟩
theorem Sl.box {w:World} {v:Value} {l:List Nat} {b:Nat} {q:Bool} {ao:Option Addr} {n cap:Nat} (h:Sl w v l) (h0:w.cell? ⟨b,0,none⟩ = some (.bool q)) (h1:w.cell? ⟨b,1,none⟩ = some (.slice ao n cap)) (x y:Value):Sl ((w.setCell ⟨b,0,none⟩ x).setCell ⟨b,1,none⟩ y) v l:=by
 obtain ⟨hb,ao,cap',rfl,hx⟩:=h
 refine ⟨hb,ao,cap',rfl,fun hl => ?_⟩
 obtain ⟨k1,b',off',rfl,hlt,hc⟩:=hx hl
 refine ⟨k1,b',off',rfl,by rw [World.size_setCell,World.size_setCell]; exact hlt,fun j hj => ?_⟩
 rw [World.cell?_setCell_other _ _ _ _ (fun e => by have:=hc j hj; rw [← e,h1] at this; simp at this),World.cell?_setCell_other _ _ _ _ (fun e => by have:=hc j hj; rw [← e,h0] at this; simp at this)]
 exact hc j hj
set_option maxRecDepth 100000 in
set_option maxHeartbeats 1000000 in
theorem small_any (v:Nat) (w:World) (hv:v < 65536) :
  Calls Tryz.prog 37 #[.int .i64 (v:Int)] w fun e w' => Kept w w'∧∃ ao n cap l,e = .returned (.agg #[.bool false,.slice ao n cap])∧Sl w' (.slice ao n cap) l∧D.Tr l∧D.val l = v∧l.length≤1:=by
 obtain ⟨i0,hi,hz0,hz1,hz2⟩:=info_parts infoI
 have hml:0 + 1≤maxLen:=by unfold maxLen; omega
 go_enter Tryz.func37,Tryz.ntmps37
 go_wp2
 go_loopw [0] (fun v0 wr => (v0 = .int .i64 (v:Int)∧wr = (w.alloc (Obj.cells #[.bool false,.slice none 0 0] 51)).alloc (Obj.cells #[.bool false,.slice none 0 0] 51)) ∨ (v0 = .int .i64 0∧0 < v∧∃ b cap:Nat,w.heap.size < b∧wr.cell? ⟨w.heap.size + 1,0,none⟩ = some (.bool false)∧wr.cell? ⟨w.heap.size + 1,1,none⟩ = some (.slice (some ⟨b,0,none⟩) 1 cap)∧wr.frozen? ⟨w.heap.size,0,none⟩ = false∧wr.frozen? ⟨w.heap.size,1,none⟩ = false∧(∃ x,wr.cell? ⟨w.heap.size,0,none⟩ = some x)∧(∃ x,wr.cell? ⟨w.heap.size,1,none⟩ = some x)∧Hid (Kept w wr)∧Hid (Sl wr (.slice (some ⟨b,0,none⟩) 1 cap) [v]))) (fun v0 _ => (intOf v0).toNat)
 case atStart => exact .inl ⟨rfl,rfl⟩
 case round =>
  rcases hrel with ⟨rfl,rfl⟩ | ⟨rfl,hv0,b,cap,hb,hc0,hc1,hf0,hf1,⟨x0,hx0⟩,⟨x1,hx1⟩,hk3,hsl⟩
  ·
   by_cases h0:v = 0
   ·
    subst h0
    go_wp2
    exact bodyPost_ret (v:=.agg #[.bool false,.slice none 0 0]) (by simp [results,Tryz.results37,go_sem]) rfl ⟨((Kept.refl w).alloc _).alloc _,none,0,0,[],rfl,Sl.nil _ _ _,.inl rfl,rfl,by simp⟩
   ·
    have h1:0 < v:=by omega
    go_wp2
    go_roundw
    case rel =>
     have hcap:=grownCap_ge w 1 0 3
     refine .inr ⟨by go_num,h1,w.heap.size + 1 + 1 + 1,grownCap w 1 0 3,by omega,?_,?_,?_,?_,?_,?_,(((((Kept.refl w).alloc _).alloc _).alloc _).alloc _).drew,(one_digit v h1 hv).1,_,_,rfl,fun _ => ⟨hcap,_,_,rfl,?_,fun j hj => ?_⟩⟩
     ·
      rw [(((Kept.refl ((w.alloc (Obj.cells #[.bool false,.slice none 0 0] 51)).alloc _)).alloc _).alloc _).drew.cells (w.heap.size + 1) _ (by simp)]; simp
     ·
      rw [(((Kept.refl ((w.alloc (Obj.cells #[.bool false,.slice none 0 0] 51)).alloc _)).alloc _).alloc _).drew.cells (w.heap.size + 1) _ (by simp)]; simp; rfl
     ·
      rw [((((Kept.refl (w.alloc (Obj.cells #[.bool false,.slice none 0 0] 51))).alloc _).alloc _).alloc _).drew.frozens _ _ (by simp)]; simp
     ·
      rw [((((Kept.refl (w.alloc (Obj.cells #[.bool false,.slice none 0 0] 51))).alloc _).alloc _).alloc _).drew.frozens _ _ (by simp)]; simp
     ·
      exact ⟨_,(box_kept (w:=w) ((((Kept.refl _).alloc _).alloc _).alloc _).drew).1⟩
     ·
      exact ⟨_,(box_kept (w:=w) ((((Kept.refl _).alloc _).alloc _).alloc _).drew).2⟩
     ·
      simp
     ·
      have:j = 0:=by simpa using hj
      subst this
      rw [show (v:Int) % 65536 = v by omega]
      refine Eq.trans (b:=((#[Value.int .i64 (v:Int)] ++ Builtin.zeroCells #[Value.int .i64 0] (grownCap w 1 0 3 - 1)):Array Value)[0]?) ?_ ?_
      ·
       exact World.cell?_alloc_at _ _ _ _ (by simp)
      ·
       rw [Array.getElem?_append_left (by simp)]; rfl
    case measure => simp [intOf]; omega
  ·
   go_wp2
   exact bodyPost_ret (v:=.agg #[.bool false,.slice (some ⟨b,0,none⟩) 1 cap]) (by simp [results,Tryz.results37,go_sem,hx0,hx1]) rfl ⟨(hk3.out.setCell (by simp) _).setCell (by simp) _,_,1,cap,[v],rfl,(hsl.out.far (by simp; omega) _).far (by simp; omega) _,(one_digit v hv0 hv).2.1,(one_digit v hv0 hv).2.2,by simp⟩
def NIs (w:World) (s:Bool) (v:Value) (z:Int):Prop:=∃ l,Sl w v l∧Right s l∧int s l = z
theorem NIs.kept {w w':World} {s:Bool} {v:Value} {z:Int} (h:NIs w s v z) (k:Kept w w'):NIs w' s v z:=by
 obtain ⟨l,h1,h2⟩:=h
 exact ⟨l,h1.kept k,h2⟩
end D
end Go.Proofs.YtdcfammglpebaaaGreat

namespace Go.Proofs.YtdcfammglpebaaaGreat
open Go.RowKit
namespace D
theorem prod_step {b o:List Nat} {V x y i j c s:Nat} (hy:y = b.getD j 0) (hm:i + j < o.length) (hs:s = o.getD (i + j) 0 + x * y + c)
  (h:D.val o + 65536 ^ (i + j) * c = V + x * (65536 ^ i * D.val (b.take j))) :
  D.val (o.set (i + j) (s % 65536)) + 65536 ^ (i + (j + 1)) * (s / 65536) = V + x * (65536 ^ i * D.val (b.take (j + 1))):=by
 have h1:=val_set o (i + j) (s % 65536) hm
 rw [D.take_succ_getD,← hy,← Nat.add_assoc,Nat.pow_succ,Nat.mul_assoc]
 have e1:65536 ^ (i + j) * (s % 65536) + 65536 ^ (i + j) * (65536 * (s / 65536)) = 65536 ^ (i + j) * s:=by rw [← Nat.mul_add]; congr 1; omega
 have e2:65536 ^ (i + j) * s = 65536 ^ (i + j) * c + 65536 ^ (i + j) * (x * y) + 65536 ^ (i + j) * o.getD (i + j) 0:=by rw [hs,Nat.mul_add,Nat.mul_add]; omega
 have e3:x * (65536 ^ i * (D.val (b.take j) + 65536 ^ j * y)) = x * (65536 ^ i * D.val (b.take j)) + 65536 ^ (i + j) * (x * y):=by
  rw [Nat.mul_add,Nat.mul_add,Nat.pow_add]
  congr 1
  rw [← Nat.mul_assoc (65536 ^ i),Nat.mul_left_comm]
 omega
theorem prod_round {a b o:List Nat} {x i c:Nat} (hx:x = a.getD i 0) (hm:i + b.length < o.length) (hz:o.getD (i + b.length) 0 = 0)
  (h:D.val o + 65536 ^ (i + b.length) * c = D.val (a.take i) * D.val b + x * (65536 ^ i * D.val (b.take b.length))) :
  D.val (o.set (i + b.length) c) = D.val (a.take (i + 1)) * D.val b:=by
 have h1:=val_set o (i + b.length) c hm
 rw [hz] at h1
 rw [List.take_length] at h
 rw [D.take_succ_getD,← hx,Nat.add_mul]
 have e:65536 ^ i * x * D.val b = x * (65536 ^ i * D.val b):=by rw [Nat.mul_comm (65536 ^ i) x,Nat.mul_assoc]
 omega
theorem mul_bound {x y:Nat} (hx:x < 65536) (hy:y < 65536):x * y≤4294836225:=by
 have:=Nat.mul_le_mul (Nat.le_of_lt_succ hx) (Nat.le_of_lt_succ hy)
 exact this
end D
end Go.Proofs.YtdcfammglpebaaaGreat

namespace Go.Proofs.YtdcfammglpebaaaGreat
open Go.RowKit
namespace D
theorem Sl.len {w:World} {ao:Option Addr} {n cap:Nat} {l:List Nat} (h:Sl w (.slice ao n cap) l):n = l.length:=by
 obtain ⟨_,ao',cap',he,_⟩:=h
 simp only [Value.slice.injEq] at he
 exact he.2.1
theorem int_zero {m:Bool} {l:List Nat} (h:l.length = 0):int m l = 0:=by
 have:l = []:=List.length_eq_zero_iff.1 h
 subst this; cases m <;> rfl
theorem NIs.mk {w:World} {q:Bool} {ao:Option Addr} {k cap:Nat} {l:List Nat} {z:Int} (h:Sl w (.slice ao k cap) l) (ht:D.Tr l) (hz:int q l = z):NIs w (q && decide (0 < k)) (.slice ao k cap) z:=by
 have hk:=h.len
 refine ⟨l,h,⟨h.bd,ht,fun e => by rw [hk,e]; simp⟩,?_⟩
 by_cases h0:0 < k
 ·
  simpa [h0] using hz
 ·
  rw [int_zero (by omega),← hz,int_zero (by omega)]
theorem int_same {m:Bool} {a b l:List Nat} (h:D.val l = D.val a + D.val b):int m l = int m a + int m b:=by
 unfold int; cases m <;> simp [h]; omega
theorem int_lt {m n:Bool} {a b l:List Nat} (hmn:m ≠ n) (hc:D.val a≤D.val b) (h:D.val l = D.val b - D.val a):int n l = int m a + int n b:=by
 unfold int; cases m <;> cases n <;> simp at hmn ⊢ <;> omega
theorem int_ge {m n:Bool} {a b l:List Nat} (hmn:m ≠ n) (hc:D.val b≤D.val a) (h:D.val l = D.val a - D.val b):int m l = int m a + int n b:=by
 unfold int; cases m <;> cases n <;> simp at hmn ⊢ <;> omega
end D
end Go.Proofs.YtdcfammglpebaaaGreat

/- rat.refusal, of whatever list. rat.beyondHalf: a rest's magnitude against what the denominator has beyond it. rat.onGrid. shuntref02.Same, of the same. cmp.Compare of ints. rat.opposite: the same magnitude, of the other sign. -/
import Derived.Test.YtgofinhnlcbafaaGreatGam
import Derived.Deep.RegionHeld3
namespace Go.Proofs.YtgofinhnlcbafaaGreat
open Go.RowKit
namespace F
theorem hid' {p:Prop} (h:p):Hid p:=h
def RatAll (w:World) (b off N:Nat) (m n:Nat→Bool) (aa ad:Nat→Option Addr) (ka ca kd cd:Nat→Nat) (a d:Nat→List Nat):Prop :=
 ∀ i,i < N→(w.cell? ⟨b,off + i * 4,none⟩ = some (.bool (m i))∧w.cell? ⟨b,off + i * 4 + 1,none⟩ = some (.slice (aa i) (ka i) (ca i))∧w.cell? ⟨b,off + i * 4 + 2,none⟩ = some (.bool (n i))∧w.cell? ⟨b,off + i * 4 + 3,none⟩ = some (.slice (ad i) (kd i) (cd i)))∧Sl w (.slice (aa i) (ka i) (ca i)) (a i)∧Sl w (.slice (ad i) (kd i) (cd i)) (d i)∧(a i).length≤9223372036854775807∧(d i).length≤9223372036854775807
def Refused (N:Nat) (m n:Nat→Bool) (a d:Nat→List Nat) (c:Int):Prop :=
 (c = 10∧∃ i,i < N∧¬ (R (m i) (a i)∧R (n i) (d i))) ∨ ((∀ i,i < N→R (m i) (a i)∧R (n i) (d i))∧((c = 20∧∃ i,i < N∧¬ (0 < M.int (n i) (d i)∧Nat.gcd (M.val (a i)) (M.val (d i)) = 1)) ∨ (c = 0∧∀ i,i < N→0 < M.int (n i) (d i)∧Nat.gcd (M.val (a i)) (M.val (d i)) = 1)))
set_option maxHeartbeats 4000000 in
theorem refusal_any (ao:Option Addr) (b off N cap:Nat) (w:World) (m n:Nat→Bool) (aa ad:Nat→Option Addr) (ka ca kd cd:Nat→Nat) (a d:Nat→List Nat) (hao:0 < N→ao = some ⟨b,off,none⟩) (hN:N≤1000000) (H:RatAll w b off N m n aa ad ka ca kd cd a d) :
  Calls Tryz.prog 58 #[.slice ao N cap] w fun e w' => Kept w w'∧∃ c:Int,e = .returned (.int .i64 c)∧Refused N m n a d c:=by
 have HH:Hid (RatAll w b off N m n aa ad ka ca kd cd a d∧(0 < N→ao = some ⟨b,off,none⟩)):=⟨H,hao⟩
 clear H hao
 go_enter Tryz.func58,Tryz.ntmps58
 go_wp2_with fail
 go_loopw [9] (fun vi wr => ∃ k:Nat,k≤N∧vi = .int .i64 (k:Int)∧Hid (Kept w wr∧∀ i,i < k→R (m i) (a i)∧R (n i) (d i))) (fun vi _ => N - (intOf vi).toNat)
 case atStart => exact ⟨0,Nat.zero_le _,rfl,Kept.refl w,fun i hi => by omega⟩
 case round =>
  obtain ⟨k,hk,rfl,HK⟩:=hrel
  by_cases hlt:k < N
  ·
   obtain ⟨⟨h0,h1,h2,h3⟩,h4⟩:=HH.out.1 k hlt
   obtain rfl:=HH.out.2 (by omega)
   have h0:=cell_kept HK.out.1 h0
   have h1:=cell_kept HK.out.1 h1
   have h2:=cell_kept HK.out.1 h2
   have h3:=cell_kept HK.out.1 h3
   have H4:=hid' h4
   clear h4
   by_cases hA:R (m k) (a k)
   ·
    have HA:=hid' hA
    clear hA
    go_wp2_with fail
    refine (check_yes (m k) _ (a k) _ (H4.out.1.kept (HK.out.1.alloc _)) HA.out).mono ?_
    rintro e w1 ⟨rfl,hk1⟩
    have c2:w1.cell? ⟨wr.heap.size,2,none⟩ = some (.bool (n k)):=by rw [hk1.cells _ _ (by simp)]; simp
    have c3:w1.cell? ⟨wr.heap.size,3,none⟩ = some (.slice (ad k) (kd k) (cd k)):=by rw [hk1.cells _ _ (by simp)]; simp
    have HK1:Hid (Kept w w1):=(HK.out.1.alloc _).trans hk1
    clear hk1
    by_cases hD:R (n k) (d k)
    ·
     have HD:=hid' hD
     clear hD
     go_wp2_with fail
     refine (check_yes (n k) _ (d k) _ (H4.out.2.1.kept HK1.out) HD.out).mono ?_
     rintro e w2 ⟨rfl,hk2⟩
     have HK2:Hid (Kept w w2):=HK1.out.trans hk2
     clear hk2
     go_wp2_with fail
     go_roundw
     case rel => exact ⟨k + 1,by omega,by go_num,HK2.out,fun i hi => if h:i = k then by rw [h]; exact ⟨HA.out,HD.out⟩ else HK.out.2 i (by omega)⟩
     case measure => simp [intOf]; omega
    ·
     have HD:=hid' hD
     clear hD
     go_wp2_with fail
     refine (check_no (n k) _ (d k) _ (H4.out.2.1.kept HK1.out) H4.out.2.2.2 HD.out).mono ?_
     rintro e w2 ⟨rfl,hk2⟩
     have HK2:Hid (Kept w w2):=HK1.out.trans hk2
     clear hk2
     go_wp2
     go_ret
     exact ⟨HK2.out,10,rfl,.inl ⟨rfl,k,hlt,fun h => HD.out h.2⟩⟩
   ·
    have HA:=hid' hA
    clear hA
    go_wp2_with fail
    refine (check_no (m k) _ (a k) _ (H4.out.1.kept (HK.out.1.alloc _)) H4.out.2.2.1 HA.out).mono ?_
    rintro e w1 ⟨rfl,hk1⟩
    have HK1:Hid (Kept w w1):=(HK.out.1.alloc _).trans hk1
    clear hk1
    go_wp2
    go_ret
    exact ⟨HK1.out,10,rfl,.inl ⟨rfl,k,hlt,fun h => HA.out h.1⟩⟩
  ·
   have HR:Hid (∀ i,i < N→R (m i) (a i)∧R (n i) (d i)):=fun i hi => HK.out.2 i (by omega)
   go_wp2_with fail
   go_loopw [26] (fun vi wr => ∃ k:Nat,k≤N∧vi = .int .i64 (k:Int)∧Hid (Kept w wr∧∀ i,i < k→0 < M.int (n i) (d i)∧Nat.gcd (M.val (a i)) (M.val (d i)) = 1)) (fun vi _ => N - (intOf vi).toNat)
   case atStart => exact ⟨0,Nat.zero_le _,rfl,HK.out.1,fun i hi => by omega⟩
   case round =>
    obtain ⟨k,hk,rfl,HK⟩:=hrel
    by_cases hlt:k < N
    ·
     obtain ⟨⟨h0,h1,h2,h3⟩,h4⟩:=HH.out.1 k hlt
     obtain rfl:=HH.out.2 (by omega)
     have h0:=cell_kept HK.out.1 h0
     have h1:=cell_kept HK.out.1 h1
     have h2:=cell_kept HK.out.1 h2
     have h3:=cell_kept HK.out.1 h3
     have H4:=hid' h4
     clear h4
     go_wp2_with fail
     refine (lowest_r (m k) (n k) (aa k) (ad k) (ka k) (ca k) (kd k) (cd k) (a k) (d k) _ (H4.out.1.kept (HK.out.1.alloc _)) (H4.out.2.1.kept (HK.out.1.alloc _)) (HR.out k hlt).1 (HR.out k hlt).2).mono ?_
     by_cases hl:0 < M.int (n k) (d k)∧Nat.gcd (M.val (a k)) (M.val (d k)) = 1
     ·
      rw [decide_eq_true hl]
      have HL:=hid' hl
      clear hl
      rintro e w1 ⟨rfl,hk1⟩
      have HK1:Hid (Kept w w1):=(HK.out.1.alloc _).trans hk1
      clear hk1
      go_wp2_with fail
      go_roundw
      case rel => exact ⟨k + 1,by omega,by go_num,HK1.out,fun i hi => if h:i = k then by rw [h]; exact HL.out else HK.out.2 i (by omega)⟩
      case measure => simp [intOf]; omega
     ·
      rw [decide_eq_false hl]
      have HL:=hid' hl
      clear hl
      rintro e w1 ⟨rfl,hk1⟩
      have HK1:Hid (Kept w w1):=(HK.out.1.alloc _).trans hk1
      clear hk1
      go_wp2
      go_ret
      exact ⟨HK1.out,20,rfl,.inr ⟨HR.out,.inl ⟨rfl,k,hlt,HL.out⟩⟩⟩
    ·
     go_wp2
     go_ret
     exact ⟨HK.out.1,0,rfl,.inr ⟨HR.out,.inr ⟨rfl,fun i hi => HK.out.2 i (by omega)⟩⟩⟩
end F
end Go.Proofs.YtgofinhnlcbafaaGreat

namespace Go.Proofs.YtgofinhnlcbafaaGreat
open Go.RowKit
namespace F
set_option maxHeartbeats 2000000 in
theorem beyondHalf_r (m:Bool) (aoa aob:Option Addr) (ka ca kb cb:Nat) (a b:List Nat) (w:World) (ha:Sl w (.slice aoa ka ca) a) (hb:Sl w (.slice aob kb cb) b) (hra:R m a) (hrb:R false b) (hlt:M.val a≤M.val b) :
  Calls Tryz.prog 65 #[.agg #[.bool m,.slice aoa ka ca],.agg #[.bool false,.slice aob kb cb]] w fun e w' => e = .returned (.int .i64 (isgn (M.val a) ((M.val b:Int) - M.val a)))∧Kept w w':=by
 have HR:Hid (R false a∧R false b∧M.val a≤M.val b):=⟨⟨hra.1,fun _ => rfl,hra.2.2⟩,hrb,hlt⟩
 have HA:Hid (Sl w (.slice aoa ka ca) a∧Sl w (.slice aob kb cb) b):=⟨ha,hb⟩
 clear ha hb hra hrb hlt
 have K2:∀ x y,Kept w ((w.alloc x).alloc y):=fun x y => ((Kept.refl w).alloc x).alloc y
 go_enter Tryz.func65,Tryz.ntmps65
 go_wp2_with fail
 refine (sub_any false false _ _ b a _ (HA.out.2.kept (K2 _ _)) (HA.out.1.kept (K2 _ _)) HR.out.2.1 HR.out.1).mono ?_
 rintro e w1 ⟨hk,s,ao,k,cap,c,rfl,hF⟩
 have hB:=box_kept2 hk
 obtain ⟨hA0,hA1,-,-⟩:=hB
 have hFin:∃ l,Hid (New w.heap.size w1 (.slice ao k cap) l∧M.Right s l∧M.int s l = (M.val b:Int) - M.val a):=by
  have e1:M.int false b - M.int false a = (M.val b:Int) - M.val a:=by simp [M.int]
  rw [e1] at hF
  rcases hF with ⟨_,l,h1,h2,h3⟩ | ⟨_,_,_,h⟩
  ·
   exact ⟨l,h1.mono (by simp; omega),h2,h3⟩
  ·
   exfalso
   have h4:=HR.out.2.2
   have h5:M.val b < M.W72:=M.lt_W72 HA.out.2.bd HR.out.2.1.1
   omega
 obtain ⟨l,HL⟩:=hFin
 have HK:Hid (Kept w w1):=(K2 _ _).trans hk
 have hsz:=hk.size
 simp at hsz
 have hlt1:w.heap.size < w1.heap.size:=by omega
 clear hk hF K2 hsz
 go_wp2_with fail
 refine (icmp_any false s _ _ a l _ (HA.out.1.kept (HK.out.alloc _)) (HL.out.1.sl.kept ((Kept.refl _).alloc _)) HR.out.1 (R.of_right HL.out.2.1)).mono ?_
 rintro e w2 ⟨rfl,hk2⟩
 have HK2:Hid (Kept w w2):=(HK.out.alloc _).trans hk2
 clear hk2
 go_wp2
 go_ret
 exact ⟨ret_i64 (by rw [HL.out.2.2]; simp [M.int]),HK2.out⟩
end F
end Go.Proofs.YtgofinhnlcbafaaGreat

namespace Go.Proofs.YtgofinhnlcbafaaGreat
open Go.RowKit
namespace F
set_option maxHeartbeats 1000000 in
theorem onGrid_r (n:Int) (w:World) :
  Calls Tryz.prog 67 #[.int .i64 n] w fun e w' => e = .returned (.bool (decide (-1000000000000000000≤n∧n≤1000000000000000000)))∧Kept w w':=by
 by_cases h1:-1000000000000000000≤n <;> by_cases h2:n≤1000000000000000000
 all_goals
  go_enter Tryz.func67,Tryz.ntmps67
  go_wp2
  go_ret
  exact ⟨ret_bool (by simp [h1,h2]),Kept.refl w⟩
end F
end Go.Proofs.YtgofinhnlcbafaaGreat

namespace Go.Proofs.YtgofinhnlcbafaaGreat
open Go.RowKit
namespace F
end F
end Go.Proofs.YtgofinhnlcbafaaGreat

namespace Go.Proofs.YtgofinhnlcbafaaGreat
open Go.RowKit
namespace F
end F
end Go.Proofs.YtgofinhnlcbafaaGreat

namespace Go.Proofs.YtgofinhnlcbafaaGreat
open Go.RowKit
namespace F
set_option maxHeartbeats 2000000 in
theorem opposite_r (m n:Bool) (aoa aob:Option Addr) (ka ca kb cb:Nat) (w:World) :
  Calls Tryz.prog 60 #[.agg #[.bool m,.slice aoa ka ca,.bool n,.slice aob kb cb]] w fun e w' => e = .returned (.agg #[.bool (!m && decide (0 < ka)),.slice aoa ka ca,.bool n,.slice aob kb cb])∧Kept w w':=by
 obtain ⟨s,hs⟩:∃ s,s = (!m && decide (0 < ka)):=⟨_,rfl⟩
 rw [← hs]
 have HS:Hid (s = (!m && decide (0 < ka))):=hs
 clear hs
 have K2:∀ x y,Kept w ((w.alloc x).alloc y):=fun x y => ((Kept.refl w).alloc x).alloc y
 go_enter Tryz.func60,Tryz.ntmps60
 go_wp2_with fail
 have hB:∀ W,Kept ((w.alloc (.cells #[.bool m,.slice aoa ka ca,.bool n,.slice aob kb cb] 68)).alloc (.cells #[.bool false,.slice none 0 0,.bool false,.slice none 0 0] 68)) W→(W.cell? ⟨w.heap.size,0,none⟩ = some (.bool m)∧W.cell? ⟨w.heap.size,1,none⟩ = some (.slice aoa ka ca)∧W.cell? ⟨w.heap.size,2,none⟩ = some (.bool n)∧W.cell? ⟨w.heap.size,3,none⟩ = some (.slice aob kb cb))∧(W.cell? ⟨w.heap.size + 1,0,none⟩ = some (.bool false)∧W.cell? ⟨w.heap.size + 1,1,none⟩ = some (.slice none 0 0)∧W.cell? ⟨w.heap.size + 1,2,none⟩ = some (.bool false)∧W.cell? ⟨w.heap.size + 1,3,none⟩ = some (.slice none 0 0))∧∀ o,W.frozen? ⟨w.heap.size + 1,o,none⟩ = false:=fun W hk => by
  refine ⟨⟨?_,?_,?_,?_⟩,⟨?_,?_,?_,?_⟩,fun o => ?_⟩
  ·
   rw [hk.cells _ _ (by simp; omega)]; simp
  ·
   rw [hk.cells _ _ (by simp; omega)]; simp
  ·
   rw [hk.cells _ _ (by simp; omega)]; simp
  ·
   rw [hk.cells _ _ (by simp; omega)]; simp
  ·
   rw [hk.cells _ _ (by simp)]; simp
  ·
   rw [hk.cells _ _ (by simp)]; simp
  ·
   rw [hk.cells _ _ (by simp)]; simp
  ·
   rw [hk.cells _ _ (by simp)]; simp
  ·
   rw [hk.frozens (w.heap.size + 1) o (by simp)]; exact World.frozen?_alloc_at _ _ _ _ (by simp)
 have HB:Hid (∀ W,Kept ((w.alloc (.cells #[.bool m,.slice aoa ka ca,.bool n,.slice aob kb cb] 68)).alloc (.cells #[.bool false,.slice none 0 0,.bool false,.slice none 0 0] 68)) W→(W.cell? ⟨w.heap.size,0,none⟩ = some (.bool m)∧W.cell? ⟨w.heap.size,1,none⟩ = some (.slice aoa ka ca)∧W.cell? ⟨w.heap.size,2,none⟩ = some (.bool n)∧W.cell? ⟨w.heap.size,3,none⟩ = some (.slice aob kb cb))∧(W.cell? ⟨w.heap.size + 1,0,none⟩ = some (.bool false)∧W.cell? ⟨w.heap.size + 1,1,none⟩ = some (.slice none 0 0)∧W.cell? ⟨w.heap.size + 1,2,none⟩ = some (.bool false)∧W.cell? ⟨w.heap.size + 1,3,none⟩ = some (.slice none 0 0))∧∀ o,W.frozen? ⟨w.heap.size + 1,o,none⟩ = false):=hB
 have HK:Hid (Kept w ((w.alloc (.cells #[.bool m,.slice aoa ka ca,.bool n,.slice aob kb cb] 68)).alloc (.cells #[.bool false,.slice none 0 0,.bool false,.slice none 0 0] 68))):=K2 _ _
 clear hB K2
 go_region_held3 (fun w' => w'.cell? ⟨w.heap.size,0,none⟩ = some (.bool m)∧w'.cell? ⟨w.heap.size,1,none⟩ = some (.slice aoa ka ca)∧w'.cell? ⟨w.heap.size,2,none⟩ = some (.bool n)∧w'.cell? ⟨w.heap.size,3,none⟩ = some (.slice aob kb cb)) (go_keep) (first | (go_at_call 96; refine (signed_r (!m) m aoa ka ca _).mono ?_; rw [← HS.out]; rintro e w1 ⟨rfl,hk1⟩; obtain ⟨⟨hA0,hA1,hA2,hA3⟩,⟨hR0,hR1,hR2,hR3⟩,hf⟩:=HB.out _ ((Kept.refl _).drew.trans hk1); have HK1:Hid (Kept w w1):=HK.out.drew.trans hk1))
 go_wp2
 refine bodyPost_ret (v:=.agg #[.bool s,.slice aoa ka ca,.bool n,.slice aob kb cb]) (by simp [results,Tryz.results60,go_sem,hR0,hR1,hR2,hR3]) rfl ⟨rfl,?_⟩
 exact (((HK1.out.setCell (by show w.heap.size≤w.heap.size + 1; omega) _).setCell (by show w.heap.size≤w.heap.size + 1; omega) _).setCell (by show w.heap.size≤w.heap.size + 1; omega) _).setCell (by show w.heap.size≤w.heap.size + 1; omega) _
end F
end Go.Proofs.YtgofinhnlcbafaaGreat

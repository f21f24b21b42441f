/- shiftRight of limb: in place. -/
import Derived.Test.YtdcgdpbgnijnpaaGreatGag
import Derived.Test.YtdcgdpbgnijnpaaGreatGab
import Derived.Deep.RegionWith
namespace Go.Proofs.YtdcgdpbgnijnpaaGreat
open Go.RowKit
theorem shr_val {x y s S:Nat} (hS:S = 2 ^ s) (hx:x < 4294967296) (hy:y < 4294967296) :
  IntKind.u32.wrap (bits .or .u64 (IntKind.u64.wrap ((y:Int) * 4294967296)) (IntKind.u64.wrap (x:Int)) / 2 ^ s) = (((y * 4294967296 + x) / S % 4294967296:Nat):Int):=by
 have h1:IntKind.u64.wrap ((y:Int) * 4294967296) = (y:Int) * 4294967296:=by rw [IntKind.wrap_u64]; omega
 have h2:IntKind.u64.wrap (x:Int) = (x:Int):=by rw [IntKind.wrap_u64]; omega
 have h3:((2:Int) ^ s) = ((S:Nat):Int):=by rw [hS]; simp
 rw [h1,h2,or_low y x hy hx,h3,IntKind.wrap_u32]
 have h4:(y:Int) * 4294967296 + x = ((y * 4294967296 + x:Nat):Int):=by omega
 rw [h4,← Int.natCast_ediv]
 generalize (y * 4294967296 + x) / S = z
 omega
set_option maxRecDepth 100000 in
set_option maxHeartbeats 2000000 in
theorem shiftRight_any (b N cap:Nat) (f:Nat→Value) (q:List Nat) (s:Nat) (w:World) (hw:Win w b N 0 f q) (hcap:q.length≤cap) (hl:q.length≤1000) (hs:s≤31) :
  Calls Tryz.prog 148 #[.slice (some ⟨b,0,none⟩) q.length cap,.int .i64 (s:Int)] w fun e w' => w.grownBy w' (some b)∧e = .returned (.tuple #[])∧∃ f' q',Win w' b N 0 f' q'∧q'.length = q.length∧M.val q' = M.val q / 2 ^ s:=by
 have HW:Hid (Win w b N 0 f q):=hw
 have bdq:=hw.bd
 have HCP:Hid (q.length≤cap):=hcap
 obtain ⟨S,hS⟩:∃ S,S = 2 ^ s:=⟨_,rfl⟩
 have HSS:Hid (S = 2 ^ s):=hS
 have HST:Hid (0 < S∧∃ T,4294967296 = S * T):=by
  show _∧_
  rw [hS]
  refine ⟨Nat.two_pow_pos s,2 ^ (32 - s),?_⟩
  rw [← Nat.pow_add,show s + (32 - s) = 32 by omega]
 rw [← hS]
 clear hw hcap hS
 go_enter Tryz.func148,Tryz.ntmps148
 go_wp2
 go_loopw [7] (fun vi wr => ∃ (k:Nat) (o:List Nat),k≤q.length∧vi = .int .i64 (k:Int)∧Hid (o.length = q.length∧(∀ j,k≤j→o.getD j 0 = q.getD j 0)∧M.val (o.take k) * S + q.getD 0 0 % S = M.val (q.take k) + 4294967296 ^ k * (q.getD k 0 % S)) ∧
   Hid (∃ g,Win wr b N 0 g o)∧Hid (w.grownBy wr (some b))) (fun vi _ => q.length - (intOf vi).toNat)
 case atStart => exact ⟨0,q,by omega,rfl,⟨rfl,fun _ _ => rfl,by simp [M.val]⟩,⟨f,HW.out⟩,World.grownBy.refl _ _⟩
 case round =>
  obtain ⟨k,o,hk,rfl,ho,hwin,hgr⟩:=hrel
  obtain ⟨g,hg1⟩:=hwin.out
  by_cases hlt:k < q.length
  ·
   have hck:wr.cell? ⟨b,k,none⟩ = some (.int .u32 ((q.getD k 0:Nat):Int)):=by
    have h9:=hg1.at_ k (by rw [ho.out.1]; exact hlt)
    rw [Nat.zero_add] at h9
    rw [hg1.row.cell (by have:=hg1.len; rw [ho.out.1] at this; omega),h9,ho.out.2.1 k (Nat.le_refl _)]
   have hfz:wr.frozen? ⟨b,k,none⟩ = false:=hg1.row.frozen _
   have hxb:=bdq.getD k
   have hyb:=bdq.getD (k + 1)
   have hcall:Calls Tryz.prog 135 #[.slice (some ⟨b,0,none⟩) q.length cap,.int .i64 ((k:Int) + 1)] wr.drew fun e w' => e = .returned (.int .u64 ((q.getD (k + 1) 0:Nat):Int))∧w' = wr.drew:=by
    have hs0:=hg1.sl (cap:=cap) (by rw [ho.out.1]; exact HCP.out)
    rw [ho.out.1] at hs0
    have h:=limbAt_any wr.drew (hs0.kept (Kept.refl wr).drew) ((k:Int) + 1) (by omega) (by rw [ho.out.1]; omega)
    rw [show ((k:Int) + 1).toNat = k + 1 by omega,ho.out.2.1 (k + 1) (by omega)] at h
    exact h
   obtain ⟨x,hx⟩:∃ x,x = q.getD k 0:=⟨_,rfl⟩
   obtain ⟨y,hy⟩:∃ y,y = q.getD (k + 1) 0:=⟨_,rfl⟩
   rw [← hx] at hck hxb
   rw [← hy] at hyb
   have hwk:IntKind.i64.wrap ((k:Int) + 1) = (k:Int) + 1:=by rw [IntKind.wrap_i64]; omega
   have HC:Hid (Calls Tryz.prog 135 #[.slice (some ⟨b,0,none⟩) q.length cap,.int .i64 (IntKind.i64.wrap ((k:Int) + 1))] wr.drew fun e w' => e = .returned (.int .u64 (y:Int))∧w' = wr.drew):=by rw [hwk,hy]; exact hcall
   have HXY:Hid (x = q.getD k 0∧y = q.getD (k + 1) 0):=⟨hx,hy⟩
   have hor:=or_low y x hyb hxb
   have hik:(k:Int) < (q.length:Int):=by omega
   have hik0:(0:Int)≤(k:Int):=by omega
   clear hx hy hcall hg1 hwk
   go_wp2_with fail
   go_region_with (go_at_call 135; refine HC.out.mono ?_; rintro e w9 ⟨rfl,rfl⟩)
   all_goals
    rw [shr_val HSS.out hxb hyb]
    have hv:(y * 4294967296 + x) / S % 4294967296 < 4294967296:=Nat.mod_lt _ (by decide)
    obtain ⟨v,hve⟩:∃ v,v = (y * 4294967296 + x) / S % 4294967296:=⟨_,rfl⟩
    rw [← hve] at hv ⊢
    have HV:Hid (v = (y * 4294967296 + x) / S % 4294967296):=hve
    clear hve
    go_wp2
    go_roundw
    case rel =>
     obtain ⟨g,hg1⟩:=hwin.out
     have hol:=ho.out.1
     obtain ⟨hS0,T,hT⟩:=HST.out
     refine ⟨k + 1,o.set k v,by omega,by go_num,⟨by rw [List.length_set]; exact hol,fun j hj => ?_,?_⟩,⟨_,by have h9:=(hg1.set (k:=k) (v:=v) (by omega) hv (v:Int) rfl).drewN 1; rw [Nat.zero_add] at h9; exact h9⟩,?_⟩
     ·
      rw [getD_set _ _ _ _ (by omega),if_neg (by omega)]; exact ho.out.2.1 j (by omega)
     ·
      exact shr_step hlt hol bdq hS0 hT (by rw [HV.out,HXY.out.1,HXY.out.2]) ho.out.2.2
     ·
      exact grown_drewN (grown_set hgr.out k _) 1
    case measure => simp [intOf]; omega
  ·
   obtain rfl:k = q.length:=by omega
   have HV:Hid (M.val o = M.val q / S):=by
    have h9:=ho.out.2.2
    have h0:q.getD q.length 0 = 0:=by rw [List.getD_eq_getElem?_getD,List.getElem?_eq_none (Nat.le_refl _)]; rfl
    rw [List.take_of_length_le (l:=o) (by rw [ho.out.1]; exact Nat.le_refl _),List.take_length,h0,Nat.zero_mod,Nat.mul_zero,Nat.add_zero] at h9
    exact shr_end HST.out.1 h9
   clear hg1
   go_wp2
   obtain ⟨g,hg1⟩:=hwin.out
   exact bodyPost_end (v:=.tuple #[]) (by simp [results,Tryz.results148,go_sem]) rfl ⟨hgr.out,rfl,g,o,hg1,ho.out.1,HV.out⟩
end Go.Proofs.YtdcgdpbgnijnpaaGreat

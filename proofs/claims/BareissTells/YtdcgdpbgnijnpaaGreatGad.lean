/- Steps of a drawn region, in few words. Regions whose last step stores what they load: a condition held till that step. Steps of a drawn region whose last step stores what it loads, in few words. A region of a function, by its number. -/
import Derived.Test.YtdcgdpbgnijnpaaGreatGaa
import Derived.Deep.AppendLies
import Derived.Deep.RegionHeld3
import Derived.Deep.MidRow
namespace Go.Proofs.YtdcgdpbgnijnpaaGreat
section
variable {P:Program} {md:Region.Mode} {ops:Array Oper} {Q:Exit→Act→World→Prop} {S:World→Prop} {oi:Oper} {v:Value} {fuel d:Nat} {listed:Array Bool} {l l':List Value} {w:World}
theorem wk (i:Nat) {a:Act} (hS:S w) (h:wpAnyH P md ops Q S fuel (listed.setIfInBounds i true) (a.put oi.dst v) w) (hi:ops[i]? = some oi:=by rfl) (hs:Region.noSelect ops = true:=by kernel_rfl) (hf:Region.free md ops listed i = true:=by kernel_rfl) (hr:(Region.ready md ops listed).contains i = true:=by kernel_rfl)
  (hQ:∀ c a w,Q (.panic c) (a.put oi.dst v) w→Q (.panic c) a w:=by exact fun _ _ _ h => h) (hw:Region.wanted oi (yielded ops a.tmps) = true:=by rfl) (hy:∀ w,S w→(execOp a.eval oi).run P w = .ok (.value v) w:=by intro _ h; go_split_ands; go_simp; with_reducible rfl):wpAnyH P md ops Q S (fuel + 1) listed a w :=
 wpAnyH_take hi hs hf hr hQ (Or.inl ⟨hw,hy⟩) hS h
theorem tk (i:Nat) {df} (hS:S w) (h:wpAnyH P md ops Q S fuel (listed.setIfInBounds i true) ⟨l'.toArray,df⟩ w) (hi:ops[i]? = some oi:=by rfl) (hd:oi.dst = some d:=by rfl) (hs:Region.noSelect ops = true:=by kernel_rfl) (hf:Region.free md ops listed i = true:=by kernel_rfl) (hr:(Region.ready md ops listed).contains i = true:=by kernel_rfl)
  (hQ:∀ c a w,Q (.panic c) (a.put oi.dst v) w→Q (.panic c) a w:=by exact fun _ _ _ h => h) (hw:Region.wanted oi (yielded ops l.toArray) = true:=by kernel_rfl) (hy:∀ w,S w→(execOp (Act.mk l.toArray df).eval oi).run P w = .ok (.value v) w:=by intro _ h; go_split_ands; go_simp; with_reducible rfl) (hl:l.set d v = l':=by simp only [List.set_cons_zero,List.set_cons_succ]; rfl):wpAnyH P md ops Q S (fuel + 1) listed ⟨l.toArray,df⟩ w:=by
 subst hl
 refine wpAnyH_take hi hs hf hr hQ (Or.inl ⟨hw,hy⟩) hS ?_
 rw [hd]
 simpa [Act.put] using h
theorem sk (i:Nat) {df} (hS:S w) (h:wpAnyH P md ops Q S fuel (listed.setIfInBounds i true) ⟨l'.toArray,df⟩ w) (hi:ops[i]? = some oi:=by rfl) (hd:oi.dst = some d:=by rfl) (hs:Region.noSelect ops = true:=by kernel_rfl) (hf:Region.free md ops listed i = true:=by kernel_rfl) (hr:(Region.ready md ops listed).contains i = true:=by kernel_rfl)
  (hQ:∀ c a w,Q (.panic c) (a.put oi.dst undef) w→Q (.panic c) a w:=by exact fun _ _ _ h => h) (hw:Region.wanted oi (yielded ops l.toArray) = false:=by kernel_rfl) (hl:l.set d undef = l':=by simp only [List.set_cons_zero,List.set_cons_succ]; rfl):wpAnyH P md ops Q S (fuel + 1) listed ⟨l.toArray,df⟩ w:=by
 subst hl
 refine wpAnyH_take hi hs hf hr hQ (Or.inr ⟨hw,rfl⟩) hS ?_
 rw [hd]
 simpa [Act.put] using h
theorem rdy (i:Nat) {o:Oper} {a:Act} (h:∀ K':Act→World→Prop,Shut (∀ a w,S w→(S w→wpAnyH P md ops Q S fuel (listed.setIfInBounds i true) a w)→K' a w)→Oper.wp P o a w K' Q) (hr:Region.ready md ops listed = [i]:=by kernel_rfl) (ho:ops[i]? = some o:=by rfl) (hw:Region.wanted o (yielded ops a.tmps) = true:=by kernel_rfl):wpAnyH P md ops Q S (fuel + 1) listed a w :=
 wpAnyH_ready hr (by simp) (AllReadyH.cons ho (fun K hK => by rw [if_pos hw]; exact h K hK) AllReadyH.nil)
theorem dn {a:Act} (h:Q .normal a w) (hr:Region.ready md ops listed = []:=by kernel_rfl):wpAnyH P md ops Q S fuel listed a w:=wpAnyH_done hr h fuel
end
end Go.Proofs.YtdcgdpbgnijnpaaGreat

namespace Go.Proofs.YtdcgdpbgnijnpaaGreat
open Go.RowKit
namespace X
section
variable {P:Program} {ops:Array Oper} {Q:Exit→Act→World→Prop} {md:Region.Mode} {S:World→Prop} {z:Nat}
def anyZ (P:Program) (md:Region.Mode) (ops:Array Oper) (Q:Exit→Act→World→Prop) (S:World→Prop) (z:Nat):Nat→Array Bool→Act→World→Prop
 | 0,ls,a,w => Region.ready md ops ls = []∧Q .normal a w
 | f + 1,ls,a,w => (Region.ready md ops ls = []→Q .normal a w)∧∀ i ∈ Region.ready md ops ls,wpOp P ops Q i (fun a' w' => (i ≠ z→S w')∧anyZ P md ops Q S z f (ls.setIfInBounds i true) a' w') a w
theorem any_of_z:∀ (f:Nat) (ls:Array Bool) (a:Act) (w:World),anyZ P md ops Q S z f ls a w→wpAny P md ops Q f ls a w
 | 0,_,_,_,h => h
 | f + 1,_,_,_,h => ⟨h.1,fun i hi => wpOp_mono (fun a' w' h' => any_of_z f _ a' w' h'.2) (h.2 i hi)⟩
def zwait (md:Region.Mode) (ops:Array Oper) (z i:Nat):Bool :=
 match ops[z]? with
 | some o => o.after.any (fun e => Region.binds md e && e.on == i)
 | none => false
theorem not_listed {i:Nat} {ls:Array Bool} (h:ls.getD i true = false):ls.getD i false = false:=by
 rcases Nat.lt_or_ge i ls.size with h' | h'
 ·
  simp [h'] at h ⊢; exact h
 ·
  simp [Array.getElem?_eq_none h'] at h
theorem zwait_not {i:Nat} {ls:Array Bool} (h:zwait md ops z i = true) (hun:ls.getD i true = false):¬ z ∈ Region.ready md ops ls:=by
 intro hz
 obtain ⟨_,o,ho,hall⟩:=mem_ready.1 hz
 simp only [zwait,ho] at h
 obtain ⟨e,he,hb⟩:=Array.any_eq_true'.1 h
 simp only [Bool.and_eq_true,beq_iff_eq] at hb
 have:=hall e he hb.1
 rw [hb.2,not_listed hun] at this
 cases this
theorem anyZ_first {i:Nat} {oi:Oper} {v:Value} (hi:ops[i]? = some oi) (hs:Region.noSelect ops = true) (hw:zwait md ops z i = true)
  (hQ:∀ c a w,Q (.panic c) (a.put oi.dst v) w→Q (.panic c) a w):∀ (f:Nat) (ls:Array Bool) (a:Act) (w:World),
   (∀ j oj,ops[j]? = some oj→j ≠ i→ls.getD j true = false→(∀ e ∈ oj.after,Region.binds md e = true→e.on ≠ i)→oi.apart ops oj = true) →
   i ∈ Region.ready md ops ls→YieldsIf P ops S oi v a→S w →
   anyZ P md ops Q S z f (ls.setIfInBounds i true) (a.put oi.dst v) w→anyZ P md ops Q S z (f + 1) ls a w:=by
 intro f
 induction f with
 | zero =>
  intro ls a w _ hr hy hS H
  refine ⟨fun h => absurd hr (by rw [h]; simp),fun j hj => ?_⟩
  by_cases hji:j = i
  ·
   subst hji
   exact hy.wpOp hi hS ⟨fun _ => hS,H⟩
  ·
   exact absurd (ready_mono hj hji) (by rw [H.1]; simp)
 | succ f ih =>
  intro ls a w hfree hr hy hS H
  have hun:=(mem_ready.1 hr).1
  refine ⟨fun h => absurd hr (by rw [h]; simp),fun j hj => ?_⟩
  by_cases hji:j = i
  ·
   subst hji
   exact hy.wpOp hi hS ⟨fun _ => hS,H⟩
  have hjz:j ≠ z:=fun e => zwait_not hw hun (e ▸ hj)
  obtain ⟨hjun,oj,hoj,hall⟩:=mem_ready.1 hj
  have hap:=hfree j oj hoj hji hjun (fun e he hb heq => by
   have h1:=hall e he hb
   rw [heq,not_listed hun] at h1
   cases h1)
  refine wpOp_mono (fun a' w' h3 => ⟨fun _ => h3.2.1 hjz,ih _ a' w' (fun k ok hk hki hku hno => hfree k ok hk hki ?_ hno) (ready_mono hr (Ne.symm hji)) h3.1 (h3.2.1 hjz) ?_⟩) (wpOp_putIf hoj hap (fun cs b => Region.noSelect_spec hs i oi cs b hi) (fun cs b => Region.noSelect_spec hs j oj cs b hoj) hQ hy (H.2 j (ready_mono hj hji)))
  ·
   by_cases hjk:j = k
   ·
    subst hjk; exact hjun
   ·
    rw [getD_set_ne true hjk] at hku; exact hku
  ·
   rw [Array.setIfInBounds_comm _ _ hji]
   exact h3.2.2
theorem anyZ_take {i:Nat} {oi:Oper} {v:Value} {f:Nat} {ls:Array Bool} {a:Act} {w:World} (hi:ops[i]? = some oi)
  (hs:Region.noSelect ops = true) (hf:Region.free md ops ls i = true) (hr:(Region.ready md ops ls).contains i = true) (hw:zwait md ops z i = true)
  (hQ:∀ c a w,Q (.panic c) (a.put oi.dst v) w→Q (.panic c) a w) (hy:YieldsIf P ops S oi v a) (hS:S w)
  (h:anyZ P md ops Q S z f (ls.setIfInBounds i true) (a.put oi.dst v) w):anyZ P md ops Q S z (f + 1) ls a w :=
 anyZ_first hi hs hw hQ f ls a w (Region.free_spec hi hf) (by simpa using hr) hy hS h
def AllZ (P:Program) (md:Region.Mode) (ops:Array Oper) (Q:Exit→Act→World→Prop) (S:World→Prop) (z f:Nat) (ls:Array Bool) (a:Act) (w:World) (rs:List Nat):Prop :=
 ∀ i ∈ rs,wpOp P ops Q i (fun a' w' => (i ≠ z→S w')∧anyZ P md ops Q S z f (ls.setIfInBounds i true) a' w') a w
theorem AllZ.nil {f:Nat} {ls:Array Bool} {a:Act} {w:World}:AllZ P md ops Q S z f ls a w []:=fun _ h => by cases h
theorem AllZ.cons {f:Nat} {ls:Array Bool} {a:Act} {w:World} {i:Nat} {o:Oper} {rs:List Nat} (ho:ops[i]? = some o)
  (h:∀ K':Act→World→Prop,Shut (∀ a w,S w→(S w→anyZ P md ops Q S z f (ls.setIfInBounds i true) a w)→K' a w)→if Region.wanted o (yielded ops a.tmps) = true then Oper.wp P o a w K' Q else K' (a.put o.dst undef) w)
  (hs:AllZ P md ops Q S z f ls a w rs):AllZ P md ops Q S z f ls a w (i :: rs):=fun j hj => by
 rcases List.mem_cons.1 hj with rfl | hj
 ·
  exact wpOp_step ho (fun K' hK => h K' (fun a w hS hW => hK a w ⟨fun _ => hS,hW hS⟩))
 ·
  exact hs j hj
theorem AllZ.last {f:Nat} {ls:Array Bool} {a:Act} {w:World} {o:Oper} (ho:ops[z]? = some o)
  (h:∀ K':Act→World→Prop,Shut (∀ a w,anyZ P md ops Q S z f (ls.setIfInBounds z true) a w→K' a w)→if Region.wanted o (yielded ops a.tmps) = true then Oper.wp P o a w K' Q else K' (a.put o.dst undef) w) :
  AllZ P md ops Q S z f ls a w [z]:=fun j hj => by
 rw [List.mem_singleton] at hj
 subst hj
 exact wpOp_step ho (fun K' hK => h K' (fun a w hW => hK a w ⟨fun e => absurd rfl e,hW⟩))
theorem anyZ_ready {rs:List Nat} {f:Nat} {ls:Array Bool} {a:Act} {w:World} (hr:Region.ready md ops ls = rs) (hne:rs ≠ []) (h:AllZ P md ops Q S z f ls a w rs):anyZ P md ops Q S z (f + 1) ls a w :=
 ⟨fun h0 => absurd (hr ▸ h0) hne,hr ▸ h⟩
theorem anyZ_done {ls:Array Bool} {a:Act} {w:World} (hr:Region.ready md ops ls = []) (h:Q .normal a w):∀ f,anyZ P md ops Q S z f ls a w
 | 0 => ⟨hr,h⟩
 | _ + 1 => ⟨fun _ => h,by rw [hr]; simp⟩
theorem region_z (z:Nat) {id:Nat} {a:Act} {w:World} (hm:P.follows .mixedOrders = true) (hS:S w.drew)
  (h:S w.drew→anyZ P .any ops Q S z ops.size (Array.replicate ops.size false) a w.drew):(Code.region id ops true).wp P Q a w :=
 wp_region_any hm (any_of_z _ _ _ _ (h hS))
end
theorem kept_grown {W w w':World} {g:Nat} (k:Kept W w) (hg:w.grownBy w' (some g)) (h:W.heap.size≤g):Kept W w' :=
 Below.grown k hg k.size (fun j hj => by simp only [Option.some.injEq] at hj; omega)
end X
end Go.Proofs.YtdcgdpbgnijnpaaGreat

namespace Go.Proofs.YtdcgdpbgnijnpaaGreat
open Go.RowKit
namespace X
section
variable {P:Program} {md:Region.Mode} {ops:Array Oper} {Q:Exit→Act→World→Prop} {S:World→Prop} {z:Nat} {oi:Oper} {v:Value} {fuel d:Nat} {listed:Array Bool} {l l':List Value} {w:World}
theorem zk (i:Nat) {df} (hS:S w) (h:anyZ P md ops Q S z fuel (listed.setIfInBounds i true) ⟨l'.toArray,df⟩ w) (hi:ops[i]? = some oi:=by rfl) (hd:oi.dst = some d:=by rfl) (hs:Region.noSelect ops = true:=by kernel_rfl) (hf:Region.free md ops listed i = true:=by kernel_rfl) (hr:(Region.ready md ops listed).contains i = true:=by kernel_rfl) (hz:zwait md ops z i = true:=by kernel_rfl)
  (hQ:∀ c a w,Q (.panic c) (a.put oi.dst v) w→Q (.panic c) a w:=by exact fun _ _ _ h => h) (hw:Region.wanted oi (yielded ops l.toArray) = true:=by kernel_rfl) (hy:∀ w,S w→(execOp (Act.mk l.toArray df).eval oi).run P w = .ok (.value v) w:=by intro _ h; go_split_ands; go_simp; with_reducible rfl) (hl:l.set d v = l':=by simp only [List.set_cons_zero,List.set_cons_succ]; rfl):anyZ P md ops Q S z (fuel + 1) listed ⟨l.toArray,df⟩ w:=by
 subst hl
 refine anyZ_take hi hs hf hr hz hQ (Or.inl ⟨hw,hy⟩) hS ?_
 rw [hd]
 simpa [Act.put] using h
theorem zr (i:Nat) {o:Oper} {a:Act} (h:∀ K':Act→World→Prop,Shut (∀ a w,S w→(S w→anyZ P md ops Q S z fuel (listed.setIfInBounds i true) a w)→K' a w)→Oper.wp P o a w K' Q) (hr:Region.ready md ops listed = [i]:=by kernel_rfl) (ho:ops[i]? = some o:=by rfl) (hw:Region.wanted o (yielded ops a.tmps) = true:=by kernel_rfl):anyZ P md ops Q S z (fuel + 1) listed a w :=
 anyZ_ready hr (by simp) (AllZ.cons ho (fun K hK => by rw [if_pos hw]; exact h K hK) AllZ.nil)
theorem zl {o:Oper} {a:Act} (h:∀ K':Act→World→Prop,Shut (∀ a w,anyZ P md ops Q S z fuel (listed.setIfInBounds z true) a w→K' a w)→Oper.wp P o a w K' Q) (hr:Region.ready md ops listed = [z]:=by kernel_rfl) (ho:ops[z]? = some o:=by rfl) (hw:Region.wanted o (yielded ops a.tmps) = true:=by kernel_rfl):anyZ P md ops Q S z (fuel + 1) listed a w :=
 anyZ_ready hr (by simp) (AllZ.last ho (fun K hK => by rw [if_pos hw]; exact h K hK))
theorem zd {a:Act} (h:Q .normal a w) (hr:Region.ready md ops listed = []:=by kernel_rfl):anyZ P md ops Q S z fuel listed a w:=anyZ_done hr h fuel
end
end X
end Go.Proofs.YtdcgdpbgnijnpaaGreat

namespace Go.Proofs.YtdcgdpbgnijnpaaGreat
def regOf (n:Nat):Code→Option Code
 | .region id ops d => if id == n then some (.region id ops d) else none
 | .seq a b => (regOf n a).orElse fun _ => regOf n b
 | .cond _ a b => (regOf n a).orElse fun _ => regOf n b
 | .block _ a => regOf n a
 | .loop a => regOf n a
 | .rangeFunc _ _ _ a => regOf n a
 | .scope a => regOf n a
 | _ => none
def headIs (n:Nat):Code→Bool
 | .region id _ _ => id == n
 | .seq a _ => headIs n a
 | _ => false
def tailOf (n:Nat):Code→Option Code
 | .seq a b => if headIs n a then some (.seq a b) else (tailOf n a).orElse fun _ => tailOf n b
 | .block _ a => tailOf n a
 | .loop a => tailOf n a
 | _ => none
def tailF (f:Func) (n:Nat):Code:=(f.body.bind (tailOf n)).getD .skip
def regF (f:Func) (n:Nat):Code:=(f.body.bind (regOf n)).getD .skip
end Go.Proofs.YtdcgdpbgnijnpaaGreat

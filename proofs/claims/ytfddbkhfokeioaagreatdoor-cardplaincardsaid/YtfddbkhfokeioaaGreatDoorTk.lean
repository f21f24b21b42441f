/- Steps of a drawn region, in few words. -/
import Derived.Deep.RegionHeld3
import Derived.Deep.MidRow
import Derived.KernelRfl
namespace Go.Proofs.YtfddbkhfokeioaaGreatDoor
section
variable {P:Program} {md:Region.Mode} {ops:Array Oper} {Q:Exit→Act→World→Prop} {S:World→Prop} {oi:Oper} {v:Value} {fuel d:Nat} {listed:Array Bool} {l l':List Value} {w:World}
theorem wk (i:Nat) {a:Act} (hS:S w) (h:wpAnyH P md ops Q S fuel (listed.setIfInBounds i true) (a.put oi.dst v) w) (hi:ops[i]? = some oi:=by rfl) (hs:Region.noSelect ops = true:=by kernel_rfl) (hf:Region.free md ops listed i = true:=by kernel_rfl) (hr:(Region.ready md ops listed).contains i = true:=by kernel_rfl)
  (hQ:∀ c a w,Q (.panic c) (a.put oi.dst v) w→Q (.panic c) a w:=by exact fun _ _ _ h => h) (hw:Region.wanted oi (yielded ops a.tmps) = true:=by rfl) (hy:∀ w,S w→(execOp a.eval oi).run P w = .ok (.value v) w:=by intro _ h; go_split_ands; go_simp; with_reducible rfl):wpAnyH P md ops Q S (fuel + 1) listed a w :=
 wpAnyH_take hi hs hf hr hQ (Or.inl ⟨hw,hy⟩) hS h
theorem tk (i:Nat) {df} (hS:S w) (h:wpAnyH P md ops Q S fuel (listed.setIfInBounds i true) ⟨l'.toArray,df⟩ w) (hi:ops[i]? = some oi:=by rfl) (hd:oi.dst = some d:=by rfl) (hs:Region.noSelect ops = true:=by kernel_rfl) (hf:Region.free md ops listed i = true:=by kernel_rfl) (hr:(Region.ready md ops listed).contains i = true:=by kernel_rfl)
  (hQ:∀ c a w,Q (.panic c) (a.put oi.dst v) w→Q (.panic c) a w:=by exact fun _ _ _ h => h) (hw:Region.wanted oi (yielded ops l.toArray) = true:=by kernel_rfl) (hy:∀ w,S w→(execOp (Act.mk l.toArray df).eval oi).run P w = .ok (.value v) w:=by intro _ h; go_split_ands; go_simp; with_reducible rfl) (hl:l.set d v = l':=by simp only [List.set_cons_zero,List.set_cons_succ]; rfl):wpAnyH P md ops Q S (fuel + 1) listed ⟨l.toArray,df⟩ w:=by
 subst hl
 refine wpAnyH_take hi hs hf hr hQ (Or.inl ⟨hw,hy⟩) hS ?_
 rw [hd]
 simpa [Act.put] using h
theorem sk (i:Nat) {df} (hS:S w) (h:wpAnyH P md ops Q S fuel (listed.setIfInBounds i true) ⟨l'.toArray,df⟩ w) (hi:ops[i]? = some oi:=by rfl) (hd:oi.dst = some d:=by rfl) (hs:Region.noSelect ops = true:=by kernel_rfl) (hf:Region.free md ops listed i = true:=by kernel_rfl) (hr:(Region.ready md ops listed).contains i = true:=by kernel_rfl)
  (hQ:∀ c a w,Q (.panic c) (a.put oi.dst undef) w→Q (.panic c) a w:=by exact fun _ _ _ h => h) (hw:Region.wanted oi (yielded ops l.toArray) = false:=by kernel_rfl) (hl:l.set d undef = l':=by simp only [List.set_cons_zero,List.set_cons_succ]; rfl):wpAnyH P md ops Q S (fuel + 1) listed ⟨l.toArray,df⟩ w:=by
 subst hl
 refine wpAnyH_take hi hs hf hr hQ (Or.inr ⟨hw,rfl⟩) hS ?_
 rw [hd]
 simpa [Act.put] using h
theorem rdy (i:Nat) {o:Oper} {a:Act} (h:∀ K':Act→World→Prop,Shut (∀ a w,S w→(S w→wpAnyH P md ops Q S fuel (listed.setIfInBounds i true) a w)→K' a w)→Oper.wp P o a w K' Q) (hr:Region.ready md ops listed = [i]:=by kernel_rfl) (ho:ops[i]? = some o:=by rfl) (hw:Region.wanted o (yielded ops a.tmps) = true:=by kernel_rfl):wpAnyH P md ops Q S (fuel + 1) listed a w :=
 wpAnyH_ready hr (by simp) (AllReadyH.cons ho (fun K hK => by rw [if_pos hw]; exact h K hK) AllReadyH.nil)
theorem dn {a:Act} (h:Q .normal a w) (hr:Region.ready md ops listed = []:=by kernel_rfl):wpAnyH P md ops Q S fuel listed a w:=wpAnyH_done hr h fuel
end
end Go.Proofs.YtfddbkhfokeioaaGreatDoor

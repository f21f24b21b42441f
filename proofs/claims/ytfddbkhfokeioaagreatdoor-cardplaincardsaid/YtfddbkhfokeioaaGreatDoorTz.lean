/- Steps of a drawn region whose last step stores what it loads, in few words. -/
import Derived.Test.YtfddbkhfokeioaaGreatDoorXz
import Derived.Test.YtfddbkhfokeioaaGreatDoorTk
namespace Go.Proofs.YtfddbkhfokeioaaGreatDoor
open Go.RowKit
namespace X
section
variable {P:Program} {md:Region.Mode} {ops:Array Oper} {Q:Exit→Act→World→Prop} {S:World→Prop} {z:Nat} {oi:Oper} {v:Value} {fuel d:Nat} {listed:Array Bool} {l l':List Value} {w:World}
theorem zk (i:Nat) {df} (hS:S w) (h:anyZ P md ops Q S z fuel (listed.setIfInBounds i true) ⟨l'.toArray,df⟩ w) (hi:ops[i]? = some oi:=by rfl) (hd:oi.dst = some d:=by rfl) (hs:Region.noSelect ops = true:=by kernel_rfl) (hf:Region.free md ops listed i = true:=by kernel_rfl) (hr:(Region.ready md ops listed).contains i = true:=by kernel_rfl) (hz:zwait md ops z i = true:=by kernel_rfl)
  (hQ:∀ c a w,Q (.panic c) (a.put oi.dst v) w→Q (.panic c) a w:=by exact fun _ _ _ h => h) (hw:Region.wanted oi (yielded ops l.toArray) = true:=by kernel_rfl) (hy:∀ w,S w→(execOp (Act.mk l.toArray df).eval oi).run P w = .ok (.value v) w:=by intro _ h; go_split_ands; go_simp; with_reducible rfl) (hl:l.set d v = l':=by simp only [List.set_cons_zero,List.set_cons_succ]; rfl):anyZ P md ops Q S z (fuel + 1) listed ⟨l.toArray,df⟩ w:=by
 subst hl
 refine anyZ_take hi hs hf hr hz hQ (Or.inl ⟨hw,hy⟩) hS ?_
 rw [hd]
 simpa [Act.put] using h
theorem zr (i:Nat) {o:Oper} {a:Act} (h:∀ K':Act→World→Prop,Shut (∀ a w,S w→(S w→anyZ P md ops Q S z fuel (listed.setIfInBounds i true) a w)→K' a w)→Oper.wp P o a w K' Q) (hr:Region.ready md ops listed = [i]:=by kernel_rfl) (ho:ops[i]? = some o:=by rfl) (hw:Region.wanted o (yielded ops a.tmps) = true:=by kernel_rfl):anyZ P md ops Q S z (fuel + 1) listed a w :=
 anyZ_ready hr (by simp) (AllZ.cons ho (fun K hK => by rw [if_pos hw]; exact h K hK) AllZ.nil)
theorem zl {o:Oper} {a:Act} (h:∀ K':Act→World→Prop,Shut (∀ a w,anyZ P md ops Q S z fuel (listed.setIfInBounds z true) a w→K' a w)→Oper.wp P o a w K' Q) (hr:Region.ready md ops listed = [z]:=by kernel_rfl) (ho:ops[z]? = some o:=by rfl) (hw:Region.wanted o (yielded ops a.tmps) = true:=by kernel_rfl):anyZ P md ops Q S z (fuel + 1) listed a w :=
 anyZ_ready hr (by simp) (AllZ.last ho (fun K hK => by rw [if_pos hw]; exact h K hK))
theorem zd {a:Act} (h:Q .normal a w) (hr:Region.ready md ops listed = []:=by kernel_rfl):anyZ P md ops Q S z fuel listed a w:=anyZ_done hr h fuel
end
end X
end Go.Proofs.YtfddbkhfokeioaaGreatDoor

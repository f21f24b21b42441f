/- A drawn region within a round of a range over a function: out of the walk of the same region outside of one (Fence.wide). -/
import Derived.Test.YtdcgdpbgnijnpaaGreatGad
import Derived.Test.YtdcgdpbgnijnpaaGreatGad
import Derived.OrdersIn
import Derived.RangeFuncCalls
import Derived.TacticsIn
namespace Go.Proofs.YtdcgdpbgnijnpaaGreat
section
variable {P:Program} {ops:Array Oper} {Q:Exit→Act→World→Prop}
theorem oper_round {l n:Nat} {o:Oper} {a:Act} {w:World} {K K':Act→World→Prop} (hd:∀ c,o.op ≠ .defer c) (hK:∀ a w,K a w→K' a w) (h:o.wp P a w K Q):o.wpIn (Fence.wide.inRound l) n P a w K' Q:=by
 refine ⟨fun _ _ => trivial,?_⟩
 show o.uponIn _ n P a K' Q ((o.semAt (some l) a.eval).run P w)
 rw [Oper.semAt_some l _ _ hd]
 unfold Oper.wp at h
 generalize (execOp a.eval o).run P w = r at h ⊢
 cases r with
 | ok x w' =>
  cases x <;> simp only [Oper.upon,Oper.uponIn] at h ⊢
  case value => exact hK _ _ h
  case skip => exact hK _ _ h
  case defer => exact hK _ _ h
  case enter f args =>
   refine ⟨fun h => (by cases h),?_⟩
   have h2:=CallsIn.inRound l (callsIn_wide (n:=n - 1).2 h)
   exact h2.mono fun e w'' he => by cases e <;> first | exact hK _ _ he | exact he
  case row row args =>
   refine ⟨fun h => (by cases h),?_⟩
   exact fun c cs _ => let ⟨v,w2,r,st⟩:=h c cs; ⟨v,w2,hK _ _ r,stepsIn_wide.2 st⟩
 | halt x w' => cases x <;> simp only [Oper.upon,Oper.uponIn] at h ⊢ <;> exact h
theorem ops_round {l n:Nat} (hd:∀ (i:Nat) (o:Oper),ops[i]? = some o→∀ c,o.op ≠ .defer c) (hL:¬ LetsOut Q):∀ (s:List Nat) (a:Act) (w:World),wpOps P ops Q s a w→wpOpsIn (Fence.wide.inRound l) n P ops Q s a w:=by
 intro s
 induction s with
 | nil => intro a w h; exact h
 | cons i rest ih =>
  intro a w h
  unfold wpOps at h
  unfold wpOpsIn
  cases ho:ops[i]? with
  | none => rw [ho] at h; exact ih a w h
  | some o =>
   rw [ho] at h
   simp only at h ⊢
   by_cases hw:Region.wanted o (yielded ops a.tmps) = true
   ·
    rw [if_pos hw] at h ⊢
    rcases h with h | ⟨_,h⟩
    ·
     exact oper_round (hd i o ho) (fun a w => ih a w) h
    ·
     exact absurd h hL
   ·
    rw [if_neg hw] at h ⊢
    exact ⟨fun _ _ => trivial,ih _ _ h⟩
theorem region_round {S:World→Prop} (l n z:Nat) {id:Nat} {a:Act} {w:World} (hm:P.follows .mixedOrders = true) (hd:∀ (i:Nat) (o:Oper),ops[i]? = some o→∀ c,o.op ≠ .defer c) (hL:¬ LetsOut Q) (hS:S w.drew)
  (h:S w.drew→X.anyZ P .any ops Q S z ops.size (Array.replicate ops.size false) a w.drew):(Code.region id ops true).wpIn (Fence.wide.inRound l) n P Q a w :=
 wpIn_region_draw fun t => ops_round hd hL _ _ _ (by
  simp only [Region.schedule,hm,Bool.true_or,if_true]
  exact wpAny_sound ops.size t _ a _ (X.any_of_z _ _ _ _ (h hS)))
end
end Go.Proofs.YtdcgdpbgnijnpaaGreat

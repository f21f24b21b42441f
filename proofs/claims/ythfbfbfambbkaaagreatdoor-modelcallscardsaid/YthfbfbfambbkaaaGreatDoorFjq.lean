/- A reckoning's join and addModulo, whichever sides of 0. -/
import Derived.Test.YthfbfbfambbkaaaGreatDoorFjoin2
import Derived.Test.YthfbfbfambbkaaaGreatDoorGaa
namespace Go.Proofs.YthfbfbfambbkaaaGreatDoor
open Go.RowKit
namespace F
theorem isgn_opp (x y:Int):isgn x 0 * isgn y 0 < 0 ↔ (x < 0/\0 < y) ∨ (0 < x/\y < 0):=by
 unfold isgn
 split <;> split <;> (try split) <;> (try split) <;> simp <;> omega
theorem isgn_same (x y:Int):0 < isgn x 0 * isgn y 0 ↔ (0 < x/\0 < y) ∨ (x < 0/\y < 0):=by
 unfold isgn
 split <;> split <;> (try split) <;> (try split) <;> simp <;> omega
theorem int_sign {m:Bool} {l:List Nat} (h:R m l):(M.int m l < 0 ↔ m = true):=by
 cases m
 ·
  simp [M.int]
 ·
  simp [int_neg_lt h]
def JoinQ (kb B:Nat) (x:Bool) (w:World) (e:Ending) (A P D:Int):Prop :=
 ∃ x' s ao k cap l,e = .returned (.agg #[.bool s,.slice ao k cap])/\Flag w kb x'/\New B w (.slice ao k cap) l/\M.Right s l/\(x' = false->x = false/\(0 < D->M.int s l = A * D + P)) /\
  (x = false->0 < D->D.natAbs < M.W72->(A * D + P).natAbs < M.W72->A.natAbs < M.W72->((A < 0/\0 < P) ∨ (0 < A/\P < 0)->P.natAbs < D.natAbs)->(¬ ((A < 0/\0 < P) ∨ (0 < A/\P < 0))->(A * D).natAbs < M.W72)->x' = false)
theorem join_q (kb:Nat) (x m n:Bool) (aoa aob aod:Option Addr) (ka ca kb' cb kd cd:Nat) (a b d:List Nat) (w:World) (hF:Flag w kb x) (ha:Sl w (.slice aoa ka ca) a) (hb:Sl w (.slice aob kb' cb) b) (hd:Sl w (.slice aod kd cd) d) (hra:R m a) (hrb:R n b) (hrd:R false d) :
  Calls Tryz.prog 129 #[.pointer (some ⟨kb,0,none⟩),.agg #[.bool m,.slice aoa ka ca],.agg #[.bool n,.slice aob kb' cb],.agg #[.bool false,.slice aod kd cd]] w fun e w' => KeptK kb w w'/\JoinQ kb w.heap.size x w' e (M.int m a) (M.int n b) (M.int false d):=by
 by_cases hs:isgn (M.int m a) 0 * isgn (M.int n b) 0 < 0
 ·
  have ho:=(isgn_opp _ _).1 hs
  have el:=hd.len
  have hdl:(0 < kd) = (0 < d.length):=by rw [el]
  obtain ⟨nd,hnd⟩:∃ nd,(m && decide (0 < kd)) = nd:=⟨_,rfl⟩
  have hrn:R nd d:=⟨hrd.1,fun h => by rw [<- hnd]; simp [el,h],hrd.2.2⟩
  refine (join_yes kb x m n aoa aob aod ka ca kb' cb kd cd a b d w hF ha hb hd hra hrb hrd nd hnd hrn hs).mono ?_
  rintro e w' ⟨h1,x',s,ao,k,cap,l,h2,h3,h4,h5,h6,h7⟩
  have key:0 < M.int false d->M.int nd d = isgn (M.int m a) 0 * M.int false d/\((M.int m a < 0/\0 < M.int n b/\isgn (M.int m a) 0 = -1) ∨ (0 < M.int m a/\M.int n b < 0/\isgn (M.int m a) 0 = 1)):=by
   intro hD
   have hl:0 < d.length:=by
    apply Classical.byContradiction
    intro h0
    have:d = []:=List.length_eq_zero_iff.1 (by omega)
    subst this
    simp [M.int,M.val] at hD
   have hn:nd = m:=by rw [<- hnd]; simp [hdl,hl]
   subst hn
   have hsg:=int_sign hra
   rcases ho with ho | ho
   ·
    have:nd = true:=hsg.1 ho.1
    subst this
    have e1:isgn (M.int true a) 0 = -1:=by unfold isgn; rw [if_pos ho.1]
    rw [e1]
    exact ⟨by simp [M.int],.inl ⟨ho.1,ho.2,rfl⟩⟩
   ·
    have:nd = false:=by
     cases nd
     ·
      rfl
     ·
      have:=hsg.2 rfl; omega
    subst this
    have e1:isgn (M.int false a) 0 = 1:=by unfold isgn; rw [if_neg (by omega),if_neg (by omega)]
    rw [e1]
    exact ⟨by simp,.inr ⟨ho.1,ho.2,rfl⟩⟩
  refine ⟨h1,x',s,ao,k,cap,l,h2,h3,h4,h5,fun h => ⟨(h6 h).1,fun hD => ?_⟩,fun h hD a1 a2 a3 a4 _ => ?_⟩
  ·
   rw [(h6 h).2,(key hD).1,Int.sub_mul]; omega
  ·
   obtain ⟨k1,k2⟩:=key hD
   obtain ⟨f1,f2,f3,f4,_⟩:=FM.join_fits hD a1 a2 a3 k2 (a4 ho)
   refine h7 h ?_
   rw [k1]
   exact ⟨f1,f2,f3,f4⟩
 ·
  have ho:¬ _:=fun h => hs ((isgn_opp _ _).2 h)
  refine (join_no kb x m n aoa aob aod ka ca kb' cb kd cd a b d w hF ha hb hd hra hrb hrd hs).mono ?_
  rintro e w' ⟨h1,x',s,ao,k,cap,l,h2,h3,h4,h5,h6,h7⟩
  exact ⟨h1,x',s,ao,k,cap,l,h2,h3,h4,h5,fun h => ⟨(h6 h).1,fun _ => (h6 h).2⟩,fun h _ _ a2 _ _ a5 => h7 h ⟨a5 ho,a2⟩⟩
def AddQ (kb B:Nat) (x:Bool) (w:World) (e:Ending) (a b:Int) (g:Nat):Prop :=
 ∃ x' s ao k cap l,e = .returned (.agg #[.bool s,.slice ao k cap])/\Flag w kb x'/\New B w (.slice ao k cap) l/\M.Right s l/\(x' = false->x = false/\(g:Int) ∣ M.int s l - (a + b))/\(x = false->a.natAbs < g->b.natAbs < g->g < M.W72->x' = false)
theorem addModulo_q (kb:Nat) (x m n:Bool) (aoa aob aod:Option Addr) (ka ca kb' cb kd cd:Nat) (a b d:List Nat) (w:World) (hF:Flag w kb x) (ha:Sl w (.slice aoa ka ca) a) (hb:Sl w (.slice aob kb' cb) b) (hd:Sl w (.slice aod kd cd) d) (hra:R m a) (hrb:R n b) (hrd:R false d) (hd0:0 < d.length) :
  Calls Tryz.prog 125 #[.pointer (some ⟨kb,0,none⟩),.agg #[.bool m,.slice aoa ka ca],.agg #[.bool n,.slice aob kb' cb],.agg #[.bool false,.slice aod kd cd]] w fun e w' => KeptK kb w w'/\AddQ kb w.heap.size x w' e (M.int m a) (M.int n b) (M.val d):=by
 by_cases hs:0 < isgn (M.int m a) 0 * isgn (M.int n b) 0
 ·
  have ho:=(isgn_same _ _).1 hs
  have hrn:R n d:=⟨hrd.1,fun h => by omega,hrd.2.2⟩
  refine (addModulo_yes kb x m n aoa aob aod ka ca kb' cb kd cd a b d w hF ha hb hd hra hrb hrn (by rw [hd.len]; exact hd0) hs).mono ?_
  rintro e w' ⟨h1,x',s,ao,k,cap,l,h2,h3,h4,h5,h6,h7⟩
  have hsg:=int_sign hrb
  have key:(0 < M.int m a/\0 < M.int n b/\M.int n d = (M.val d:Int)) ∨ (M.int m a < 0/\M.int n b < 0/\M.int n d = -(M.val d:Int)):=by
   rcases ho with ho | ho
   ·
    have:n = false:=by
     cases n
     ·
      rfl
     ·
      have:=hsg.2 rfl; omega
    subst this
    exact .inl ⟨ho.1,ho.2,by simp [M.int]⟩
   ·
    have:n = true:=hsg.1 ho.2
    subst this
    exact .inr ⟨ho.1,ho.2,by simp [M.int]⟩
  refine ⟨h1,x',s,ao,k,cap,l,h2,h3,h4,h5,fun h => ⟨(h6 h).1,?_⟩,fun h a1 a2 a3 => h7 h (FM.fit_over a1 a2 a3 key)⟩
  rw [(h6 h).2]
  rcases key with ⟨_,_,e⟩ | ⟨_,_,e⟩
  ·
   exact ⟨-1,by rw [e]; omega⟩
  ·
   exact ⟨1,by rw [e]; omega⟩
 ·
  have ho:¬ _:=fun h => hs ((isgn_same _ _).2 h)
  refine (addModulo_no kb x m n aoa aob aod ka ca kb' cb kd cd a b w hF ha hb hra hrb hs).mono ?_
  rintro e w' ⟨h1,x',s,ao,k,cap,l,h2,h3,h4,h5,h6,h7⟩
  refine ⟨h1,x',s,ao,k,cap,l,h2,h3,h4,h5,fun h => ⟨(h6 h).1,?_⟩,fun h a1 a2 a3 => h7 h (FM.fit_add a1 a2 a3 ho)⟩
  rw [(h6 h).2]
  exact ⟨0,by omega⟩
end F
end Go.Proofs.YthfbfbfambbkaaaGreatDoor

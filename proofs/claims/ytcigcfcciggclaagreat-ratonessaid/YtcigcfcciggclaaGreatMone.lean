/- The walk of RatOnes. -/
import Derived.Test.YtcigcfcciggclaaGreatGao
import Derived.Test.YtcigcfcciggclaaGreatGao
import Derived.Test.YtcigcfcciggclaaGreatFlong
import Derived.Test.YtcigcfcciggclaaGreatFawk
namespace Go.Proofs.YtcigcfcciggclaaGreat
open Go.RowKit
namespace F

/-- What Make answers, without a world. -/
def Canon (m n : Bool) (a b : List Nat) (s : Bool) (l : List Nat) (t : Bool) (l' : List Nat) (ec : Int) : Prop :=
  (¬ (R m a ∧ R n b) ∧ ec = 10 ∧ s = false ∧ l = [] ∧ t = false ∧ l' = []) ∨ (R m a ∧ R n b ∧ ((b.length = 0 ∧ ec = 11 ∧ s = false ∧ l = [] ∧ t = false ∧ l' = []) ∨ (0 < b.length ∧ ∃ N Q, Low (M.int m a) (M.int n b) N Q ∧ ((ec = 0 ∧ M.Right s l ∧ M.int s l = N ∧ M.Right t l' ∧ M.int t l' = Q) ∨ (ec = 13 ∧ s = false ∧ l = [] ∧ t = false ∧ l' = [] ∧ (M.W72 ≤ N.natAbs ∨ M.W72 ≤ Q.natAbs))))))

theorem MadeIs.canon {B : Nat} {w : World} {e : Ending} {m n : Bool} {a b : List Nat} (h : MadeIs B w e m n a b) : ∃ s ao k c t ap k' c' ec l l', e = .returned (.tuple #[.agg #[.bool s, .slice ao k c, .bool t, .slice ap k' c'], .int .i64 ec]) ∧ Sl w (.slice ao k c) l ∧ Sl w (.slice ap k' c') l' ∧ l.length ≤ 1000 ∧ l'.length ≤ 1000 ∧ Canon m n a b s l t l' ec := by
  rcases h with ⟨h, rfl⟩ | ⟨h1, h2, ⟨h3, rfl⟩ | ⟨h3, N, Q, hL, hT⟩⟩
  · exact ⟨false, none, 0, 0, false, none, 0, 0, 10, [], [], rfl, Sl.nil _ _ _, Sl.nil _ _ _, by simp, by simp, .inl ⟨h, rfl, rfl, rfl, rfl, rfl⟩⟩
  · exact ⟨false, none, 0, 0, false, none, 0, 0, 11, [], [], rfl, Sl.nil _ _ _, Sl.nil _ _ _, by simp, by simp, .inr ⟨h1, h2, .inl ⟨h3, rfl, rfl, rfl, rfl, rfl⟩⟩⟩
  · rcases hT with ⟨s, ao, k, c, l, t, ap, k', c', l', rfl, n1, r1, i1, n2, r2, i2⟩ | ⟨rfl, hw⟩
    · exact ⟨s, ao, k, c, t, ap, k', c', 0, l, l', rfl, n1.sl, n2.sl, by have := r1.len; omega, by have := r2.len; omega, .inr ⟨h1, h2, .inr ⟨h3, N, Q, hL, .inl ⟨rfl, r1, i1, r2, i2⟩⟩⟩⟩
    · exact ⟨false, none, 0, 0, false, none, 0, 0, 13, [], [], rfl, Sl.nil _ _ _, Sl.nil _ _ _, by simp, by simp, .inr ⟨h1, h2, .inr ⟨h3, N, Q, hL, .inr ⟨rfl, rfl, rfl, rfl, rfl, hw⟩⟩⟩⟩

theorem Canon.one {m n : Bool} {a b : List Nat} {s s2 t t2 : Bool} {l l2 l' l2' : List Nat} {ec ec2 : Int} (h : Canon m n a b s l t l' ec) (h' : Canon m n a b s2 l2 t2 l2' ec2) : s2 = s ∧ l2 = l ∧ t2 = t ∧ l2' = l' ∧ ec2 = ec := by
  rcases h with ⟨h0, rfl, rfl, rfl, rfl, rfl⟩ | ⟨h1, h2, h⟩ <;> rcases h' with ⟨h0', rfl, rfl, rfl, rfl, rfl⟩ | ⟨h1', h2', h'⟩
  · exact ⟨rfl, rfl, rfl, rfl, rfl⟩
  · exact absurd ⟨h1', h2'⟩ h0
  · exact absurd ⟨h1, h2⟩ h0'
  · rcases h with ⟨h3, rfl, rfl, rfl, rfl, rfl⟩ | ⟨h3, N, Q, hL, h⟩ <;> rcases h' with ⟨h3', rfl, rfl, rfl, rfl, rfl⟩ | ⟨h3', N', Q', hL', h'⟩
    · exact ⟨rfl, rfl, rfl, rfl, rfl⟩
    · omega
    · omega
    · have hb : M.int n b ≠ 0 := by
        have h := M.val_pos h2.tr (fun e => by rw [e] at h3; simp at h3)
        have h' := M.natAbs_int n b
        omega
      obtain ⟨rfl, rfl⟩ := hL.one hL' hb
      rcases h with ⟨rfl, r1, i1, r2, i2⟩ | ⟨rfl, rfl, rfl, rfl, rfl, hw⟩ <;> rcases h' with ⟨rfl, r1', i1', r2', i2'⟩ | ⟨rfl, rfl, rfl, rfl, rfl, hw'⟩
      · obtain ⟨e1, e2⟩ := M.int_inj r1' r1 (by rw [i1, i1'])
        obtain ⟨e3, e4⟩ := M.int_inj r2' r2 (by rw [i2, i2'])
        exact ⟨e1, e2, e3, e4, rfl⟩
      · have a1 := right_lt r1
        have a2 := right_lt r2
        rw [i1] at a1
        rw [i2] at a2
        omega
      · have a1 := right_lt r1'
        have a2 := right_lt r2'
        rw [i1'] at a1
        rw [i2'] at a2
        omega
      · exact ⟨rfl, rfl, rfl, rfl, rfl⟩

theorem RoundIs.split {e : Ending} {m n : Bool} {a d : List Nat} (h : RoundIs e m n a d) : ∃ v c, e = .returned (.tuple #[.int .i64 v, .int .i64 c]) ∧ RoundIs e m n a d := by
  obtain ⟨c, h1, ⟨h2, rfl⟩ | ⟨h2, rfl⟩⟩ := h
  · exact ⟨0, c, rfl, c, h1, .inl ⟨h2, rfl⟩⟩
  · exact ⟨_, _, rfl, c, h1, .inr ⟨h2, rfl⟩⟩

theorem RoundIs.one {e e' : Ending} {m n : Bool} {a d : List Nat} (h : RoundIs e m n a d) (h' : RoundIs e' m n a d) : e = e' := by
  obtain ⟨c, h1, h2⟩ := h
  obtain ⟨c', h1', h2'⟩ := h'
  obtain rfl := h1.one h1'
  rcases h2 with ⟨h0, rfl⟩ | ⟨h0, rfl⟩ <;> rcases h2' with ⟨h0', rfl⟩ | ⟨h0', rfl⟩
  · rfl
  · exact absurd h0' h0
  · exact absurd h0 h0'
  · rfl

/-- What Whole answers, without a world. -/
def WCanon (m n : Bool) (a d : List Nat) (s : Bool) (b : List Nat) (so : Bool) (l : List Nat) (ec : Int) : Prop :=
  (ec ≠ 0 ∧ so = false ∧ l = [] ∧ ((¬ R s b ∧ ec = 10) ∨ (R s b ∧ FaultC m n a d ec) ∨ (R s b ∧ RatR m n a d ∧ ¬ M.val d ∣ M.val b ∧ ec = 12))) ∨ (R s b ∧ RatR m n a d ∧ M.val d ∣ M.val b ∧ ∃ z, z * M.val d = M.int s b * M.int m a ∧ ((ec = 0 ∧ M.Right so l ∧ M.int so l = z) ∨ (ec = 13 ∧ so = false ∧ l = [] ∧ M.W72 ≤ z.natAbs)))

theorem WholeIs.canon {B : Nat} {w : World} {e : Ending} {m n : Bool} {a d : List Nat} {s : Bool} {b : List Nat} (h : WholeIs B w e m n a d s b) : ∃ so ao k c ec l, e = .returned (.tuple #[.agg #[.bool so, .slice ao k c], .int .i64 ec]) ∧ Sl w (.slice ao k c) l ∧ l.length ≤ 1000 ∧ WCanon m n a d s b so l ec := by
  obtain ⟨so, ao, k, c, ec, rfl, ⟨h0, rfl, hv, h⟩ | ⟨h1, h2, h3, z, h4, h⟩⟩ := h
  · simp only [Value.slice.injEq] at hv
    obtain ⟨rfl, rfl, rfl⟩ := hv
    exact ⟨false, none, 0, 0, ec, [], rfl, Sl.nil _ _ _, by simp, .inl ⟨h0, rfl, rfl, h⟩⟩
  · rcases h with ⟨rfl, l, n1, r1, i1⟩ | ⟨rfl, rfl, hv, hw⟩
    · exact ⟨so, ao, k, c, 0, l, rfl, n1.sl, by have := r1.len; omega, .inr ⟨h1, h2, h3, z, h4, .inl ⟨rfl, r1, i1⟩⟩⟩
    · simp only [Value.slice.injEq] at hv
      obtain ⟨rfl, rfl, rfl⟩ := hv
      exact ⟨false, none, 0, 0, 13, [], rfl, Sl.nil _ _ _, by simp, .inr ⟨h1, h2, h3, z, h4, .inr ⟨rfl, rfl, rfl, hw⟩⟩⟩

theorem FaultC.right {m n : Bool} {a d : List Nat} {c : Int} (h : FaultC m n a d c) (hR : RatR m n a d) : c = 0 := h.one (.inr (.inr ⟨rfl, hR⟩))

theorem WCanon.one {m n : Bool} {a d : List Nat} {s : Bool} {b : List Nat} {so so2 : Bool} {l l2 : List Nat} {ec ec2 : Int} (h : WCanon m n a d s b so l ec) (h' : WCanon m n a d s b so2 l2 ec2) : so2 = so ∧ l2 = l ∧ ec2 = ec := by
  rcases h with ⟨h0, rfl, rfl, h⟩ | ⟨h1, h2, h3, z, h4, h⟩ <;> rcases h' with ⟨h0', rfl, rfl, h'⟩ | ⟨h1', h2', h3', z', h4', h'⟩
  · refine ⟨rfl, rfl, ?_⟩
    rcases h with ⟨g1, rfl⟩ | ⟨g1, g2⟩ | ⟨g1, g2, g3, rfl⟩ <;> rcases h' with ⟨g1', rfl⟩ | ⟨g1', g2'⟩ | ⟨g1', g2', g3', rfl⟩
    · rfl
    · exact absurd g1' g1
    · exact absurd g1' g1
    · exact absurd g1 g1'
    · exact g2'.one g2
    · exact absurd (g2.right g2') h0
    · exact absurd g1 g1'
    · exact absurd (g2'.right g2) h0'
    · rfl
  · exfalso
    rcases h with ⟨g1, rfl⟩ | ⟨g1, g2⟩ | ⟨g1, g2, g3, rfl⟩
    · exact g1 h1'
    · exact h0 (g2.right h2')
    · exact g3 h3'
  · exfalso
    rcases h' with ⟨g1, rfl⟩ | ⟨g1, g2⟩ | ⟨g1, g2, g3, rfl⟩
    · exact g1 h1
    · exact h0' (g2.right h2)
    · exact g3 h3
  · have hz : z = z' := Int.eq_of_mul_eq_mul_right (a := (M.val d : Int)) (by have := h2.vpos; omega) (by rw [h4, h4'])
    subst hz
    rcases h with ⟨rfl, r1, i1⟩ | ⟨rfl, rfl, rfl, hw⟩ <;> rcases h' with ⟨rfl, r1', i1'⟩ | ⟨rfl, rfl, rfl, hw'⟩
    · obtain ⟨e1, e2⟩ := M.int_inj r1' r1 (by rw [i1, i1'])
      exact ⟨e1, e2, rfl⟩
    · have a1 := right_lt r1
      rw [i1] at a1
      omega
    · have a1 := right_lt r1'
      rw [i1'] at a1
      omega
    · exact ⟨rfl, rfl, rfl⟩

/-- Five variables. -/
structure Five (V : World) (pa pb pr pc pd : Nat) (sA : Bool) (oA : Option Addr) (kA cA : Nat) (tA : Bool) (pA : Option Addr) (gA hA : Nat) (oB : Option Addr) (kB cB : Nat) (pB : Option Addr) (gB hB : Nat) (m : Bool) (a1 : Option Addr) (k1 c1 : Nat) (n : Bool) (a2 : Option Addr) (k2 c2 : Nat) (sC : Bool) (oC : Option Addr) (kC cC : Nat) (oD : Option Addr) (kD cD : Nat) : Prop where
  a : RRow V pa (.bool sA) (.slice oA kA cA) (.bool tA) (.slice pA gA hA)
  b : RRow V pb (.bool sA) (.slice oB kB cB) (.bool tA) (.slice pB gB hB)
  r : RRow V pr (.bool m) (.slice a1 k1 c1) (.bool n) (.slice a2 k2 c2)
  c : IRow V pc (.bool sC) (.slice oC kC cC)
  d : IRow V pd (.bool sC) (.slice oD kD cD)

theorem Five.cells {w' : World} {pa pb pr pc pd : Nat} {sA : Bool} {oA : Option Addr} {kA cA : Nat} {tA : Bool} {pA : Option Addr} {gA hA : Nat} {oB : Option Addr} {kB cB : Nat} {pB : Option Addr} {gB hB : Nat} {m : Bool} {a1 : Option Addr} {k1 c1 : Nat} {n : Bool} {a2 : Option Addr} {k2 c2 : Nat} {sC : Bool} {oC : Option Addr} {kC cC : Nat} {oD : Option Addr} {kD cD : Nat} (h : Five w' pa pb pr pc pd sA oA kA cA tA pA gA hA oB kB cB pB gB hB m a1 k1 c1 n a2 k2 c2 sC oC kC cC oD kD cD) : w'.cell? ⟨pa, 0, none⟩ = some (.bool sA) ∧ w'.cell? ⟨pa, 1, none⟩ = some (.slice oA kA cA) ∧ w'.cell? ⟨pa, 2, none⟩ = some (.bool tA) ∧ w'.cell? ⟨pa, 3, none⟩ = some (.slice pA gA hA) ∧ w'.cell? ⟨pb, 0, none⟩ = some (.bool sA) ∧ w'.cell? ⟨pb, 1, none⟩ = some (.slice oB kB cB) ∧ w'.cell? ⟨pb, 2, none⟩ = some (.bool tA) ∧ w'.cell? ⟨pb, 3, none⟩ = some (.slice pB gB hB) ∧ w'.cell? ⟨pr, 0, none⟩ = some (.bool m) ∧ w'.cell? ⟨pr, 1, none⟩ = some (.slice a1 k1 c1) ∧ w'.cell? ⟨pr, 2, none⟩ = some (.bool n) ∧ w'.cell? ⟨pr, 3, none⟩ = some (.slice a2 k2 c2) ∧ w'.cell? ⟨pc, 0, none⟩ = some (.bool sC) ∧ w'.cell? ⟨pc, 1, none⟩ = some (.slice oC kC cC) ∧ w'.cell? ⟨pd, 0, none⟩ = some (.bool sC) ∧ w'.cell? ⟨pd, 1, none⟩ = some (.slice oD kD cD) :=
  ⟨h.a.c0, h.a.c1, h.a.c2, h.a.c3, h.b.c0, h.b.c1, h.b.c2, h.b.c3, h.r.c0, h.r.c1, h.r.c2, h.r.c3, h.c.c0, h.c.c1, h.d.c0, h.d.c1⟩

set_option maxRecDepth 100000 in
set_option maxHeartbeats 16000000 in
theorem rone_any (x y m n : Bool) (x1 y1 a1 a2 : Option Addr) (i1 j1 i2 j2 k1 c1 k2 c2 : Nat) (an ad a d : List Nat) (w : World) (s1 : Sl w (.slice x1 i1 j1) an) (s2 : Sl w (.slice y1 i2 j2) ad) (s3 : Sl w (.slice a1 k1 c1) a) (s4 : Sl w (.slice a2 k2 c2) d) (l1 : an.length ≤ 9223372036854775807) (l2 : ad.length ≤ 9223372036854775807) (l3 : a.length ≤ 9223372036854775807) (l4 : d.length ≤ 9223372036854775807) :
    Calls Tryz.prog 4 #[.agg #[.bool x, .slice x1 i1 j1], .agg #[.bool y, .slice y1 i2 j2], .agg #[.bool m, .slice a1 k1 c1, .bool n, .slice a2 k2 c2]] w fun e w' => e = .returned (.bool true) ∧ Kept w w' := by
  have HG : Hid (Sl w (.slice x1 i1 j1) an ∧ Sl w (.slice y1 i2 j2) ad ∧ Sl w (.slice a1 k1 c1) a ∧ Sl w (.slice a2 k2 c2) d) := ⟨s1, s2, s3, s4⟩
  have HL : Hid (an.length ≤ 9223372036854775807 ∧ ad.length ≤ 9223372036854775807 ∧ a.length ≤ 9223372036854775807 ∧ d.length ≤ 9223372036854775807) := ⟨l1, l2, l3, l4⟩
  clear s1 s2 s3 s4 l1 l2 l3 l4
  go_enter Tryz.func4, Tryz.ntmps4
  go_wp2_with fail
  refine (awake_yes _).mono ?_
  rintro e w1 ⟨rfl, hk⟩
  have Hn := hid' ((IRow.alloc w (.bool x) (.slice x1 i1 j1)).kept ((((Kept.refl _).alloc _).alloc _).trans hk))
  have Hd0 := (IRow.alloc (w.alloc (.cells #[.bool x, .slice x1 i1 j1] 24)) (.bool y) (.slice y1 i2 j2)).kept (((Kept.refl _).alloc _).trans hk)
  have Hr0 := (RRow.alloc ((w.alloc (.cells #[.bool x, .slice x1 i1 j1] 24)).alloc (.cells #[.bool y, .slice y1 i2 j2] 24)) (.bool m) (.slice a1 k1 c1) (.bool n) (.slice a2 k2 c2)).kept hk
  simp only [World.size_alloc] at Hd0 Hr0
  have Hd := hid' Hd0
  have Hr := hid' Hr0
  have HK := hid' (((((Kept.refl w).alloc _).alloc _).alloc _).trans hk)
  clear hk Hd0 Hr0
  have f0 := Hn.out.c0
  have f1 := Hn.out.c1
  have f2 := Hd.out.c0
  have f3 := Hd.out.c1
  have f4 := Hr.out.c0
  have f5 := Hr.out.c1
  have f6 := Hr.out.c2
  have f7 := Hr.out.c3
  go_wp2_with fail
  refine (long_any w1.heap.size 4 4 _ (fun i => if i = 0 then x else if i = 1 then y else if i = 2 then m else n) (fun i => if i = 0 then x1 else if i = 1 then y1 else if i = 2 then a1 else a2) (fun i => if i = 0 then i1 else if i = 1 then i2 else if i = 2 then k1 else k2) (fun i => if i = 0 then j1 else if i = 1 then j2 else if i = 2 then c1 else c2) (by omega) (fun i hi => by
    match i, hi with
    | 0, _ => exact ⟨(World.cell?_alloc_at _ _ _ _ rfl).trans rfl, (World.cell?_alloc_at _ _ _ _ rfl).trans rfl⟩
    | 1, _ => exact ⟨(World.cell?_alloc_at _ _ _ _ rfl).trans rfl, (World.cell?_alloc_at _ _ _ _ rfl).trans rfl⟩
    | 2, _ => exact ⟨(World.cell?_alloc_at _ _ _ _ rfl).trans rfl, (World.cell?_alloc_at _ _ _ _ rfl).trans rfl⟩
    | 3, _ => exact ⟨(World.cell?_alloc_at _ _ _ _ rfl).trans rfl, (World.cell?_alloc_at _ _ _ _ rfl).trans rfl⟩)).mono ?_
  rintro e w2 ⟨hk, r, rfl, -⟩
  have hk' := ((Kept.refl w1).alloc _).trans hk
  have Hn := hid' (Hn.out.kept hk')
  have Hd := hid' (Hd.out.kept hk')
  have Hr := hid' (Hr.out.kept hk')
  have HK := hid' (HK.out.trans hk')
  clear hk hk' f0 f1 f2 f3 f4 f5 f6 f7
  cases r with
  | true =>
    go_wp2
    go_ret
    exact ⟨rfl, HK.out⟩
  | false =>
    have f0 := Hn.out.c0
    have f1 := Hn.out.c1
    have f2 := Hd.out.c0
    have f3 := Hd.out.c1
    have f4 := Hr.out.c0
    have f5 := Hr.out.c1
    have f6 := Hr.out.c2
    have f7 := Hr.out.c3
    go_wp2_with fail
    refine (Make_all x y x1 y1 i1 j1 i2 j2 an ad _ (HG.out.1.kept (HK.out.trans (Kept.refl w2))) (HG.out.2.1.kept (HK.out.trans (Kept.refl w2))) HL.out.1 HL.out.2.1).mono ?_
    rintro e w3 ⟨hk, hM⟩
    clear f0 f1 f2 f3 f4 f5 f6 f7
    have Hn := hid' (Hn.out.kept ((Kept.refl w2).trans hk))
    have Hd := hid' (Hd.out.kept ((Kept.refl w2).trans hk))
    have Hr := hid' (Hr.out.kept ((Kept.refl w2).trans hk))
    have HK := hid' (HK.out.trans ((Kept.refl w2).trans hk))
    obtain ⟨sA, oA, kA, cA, tA, pA, gA, hA, eA, lA, mA, rfl, hsA, htA, hlA, hmA, hcA⟩ := hM.canon
    have HA := hid' (And.intro hsA (And.intro htA (And.intro hlA (And.intro hmA hcA))))
    clear hM hsA htA hlA hmA hcA
    clear hk
    have f8 := fun x0 => (Hn.out.kept ((Kept.refl w3).alloc x0)).c0
    have f9 := fun x0 => (Hn.out.kept ((Kept.refl w3).alloc x0)).c1
    have f10 := fun x0 => (Hd.out.kept ((Kept.refl w3).alloc x0)).c0
    have f11 := fun x0 => (Hd.out.kept ((Kept.refl w3).alloc x0)).c1
    have f12 := fun x0 => (Hr.out.kept ((Kept.refl w3).alloc x0)).c0
    have f13 := fun x0 => (Hr.out.kept ((Kept.refl w3).alloc x0)).c1
    have f14 := fun x0 => (Hr.out.kept ((Kept.refl w3).alloc x0)).c2
    have f15 := fun x0 => (Hr.out.kept ((Kept.refl w3).alloc x0)).c3
    go_wp2_with fail
    refine (RMake_any x y x1 y1 i1 j1 i2 j2 an ad _ (HG.out.1.kept (HK.out.trans ((Kept.refl w3).alloc _))) (HG.out.2.1.kept (HK.out.trans ((Kept.refl w3).alloc _))) HL.out.1 HL.out.2.1).mono ?_
    rintro e w4 ⟨hk, hM⟩
    clear f8 f9 f10 f11 f12 f13 f14 f15
    have Hma' := (RRow.alloc w3 (.bool sA) (.slice oA kA cA) (.bool tA) (.slice pA gA hA)).kept ((Kept.refl _).trans hk)
    have Hma := hid' Hma'
    clear Hma'
    have Hn := hid' (Hn.out.kept (((Kept.refl w3).alloc _).trans hk))
    have Hd := hid' (Hd.out.kept (((Kept.refl w3).alloc _).trans hk))
    have Hr := hid' (Hr.out.kept (((Kept.refl w3).alloc _).trans hk))
    have HK := hid' (HK.out.trans (((Kept.refl w3).alloc _).trans hk))
    have HA := hid' (And.intro (HA.out.1.kept (((Kept.refl w3).alloc _).trans hk)) (And.intro (HA.out.2.1.kept (((Kept.refl w3).alloc _).trans hk)) HA.out.2.2))
    obtain ⟨sB, oB, kB, cB, tB, pB, gB, hB, eB, lB, mB, rfl, hsB, htB, hlB, hmB, hcB⟩ := hM.canon
    have HB := hid' (And.intro hsB (And.intro htB (And.intro hlB (And.intro hmB hcB))))
    clear hM hsB htB hlB hmB hcB
    clear hk
    obtain ⟨rfl, rfl, rfl, rfl, rfl⟩ := Canon.one HA.out.2.2.2.2 HB.out.2.2.2.2
    have f16 := fun x0 => (Hn.out.kept ((Kept.refl w4).alloc x0)).c0
    have f17 := fun x0 => (Hn.out.kept ((Kept.refl w4).alloc x0)).c1
    have f18 := fun x0 => (Hd.out.kept ((Kept.refl w4).alloc x0)).c0
    have f19 := fun x0 => (Hd.out.kept ((Kept.refl w4).alloc x0)).c1
    have f20 := fun x0 => (Hr.out.kept ((Kept.refl w4).alloc x0)).c0
    have f21 := fun x0 => (Hr.out.kept ((Kept.refl w4).alloc x0)).c1
    have f22 := fun x0 => (Hr.out.kept ((Kept.refl w4).alloc x0)).c2
    have f23 := fun x0 => (Hr.out.kept ((Kept.refl w4).alloc x0)).c3
    go_wp2_with fail
    refine (Round_all m n a1 a2 k1 c1 k2 c2 a d _ (HG.out.2.2.1.kept (HK.out.trans ((Kept.refl w4).alloc _))) (HG.out.2.2.2.kept (HK.out.trans ((Kept.refl w4).alloc _))) HL.out.2.2.1 HL.out.2.2.2).mono ?_
    rintro e w5 ⟨hk, hR⟩
    clear f16 f17 f18 f19 f20 f21 f22 f23
    have Hmb' := (RRow.alloc w4 (.bool sB) (.slice oB kB cB) (.bool tB) (.slice pB gB hB)).kept ((Kept.refl _).trans hk)
    have Hmb := hid' Hmb'
    clear Hmb'
    have Hn := hid' (Hn.out.kept (((Kept.refl w4).alloc _).trans hk))
    have Hd := hid' (Hd.out.kept (((Kept.refl w4).alloc _).trans hk))
    have Hr := hid' (Hr.out.kept (((Kept.refl w4).alloc _).trans hk))
    have Hma := hid' (Hma.out.kept (((Kept.refl w4).alloc _).trans hk))
    have HK := hid' (HK.out.trans (((Kept.refl w4).alloc _).trans hk))
    have HA := hid' (And.intro (HA.out.1.kept (((Kept.refl w4).alloc _).trans hk)) (And.intro (HA.out.2.1.kept (((Kept.refl w4).alloc _).trans hk)) HA.out.2.2))
    have HB := hid' (And.intro (HB.out.1.kept (((Kept.refl w4).alloc _).trans hk)) (And.intro (HB.out.2.1.kept (((Kept.refl w4).alloc _).trans hk)) HB.out.2.2))
    obtain ⟨rv, rc, rfl, hR⟩ := hR.split
    have HR5 := hid' hR
    clear hR
    clear hk
    have f24 := Hn.out.c0
    have f25 := Hn.out.c1
    have f26 := Hd.out.c0
    have f27 := Hd.out.c1
    have f28 := Hr.out.c0
    have f29 := Hr.out.c1
    have f30 := Hr.out.c2
    have f31 := Hr.out.c3
    go_wp2_with fail
    refine (RRound_any m n a1 a2 k1 c1 k2 c2 a d _ (HG.out.2.2.1.kept (HK.out.trans (Kept.refl w5))) (HG.out.2.2.2.kept (HK.out.trans (Kept.refl w5))) HL.out.2.2.1 HL.out.2.2.2).mono ?_
    rintro e w6 ⟨hk, hR⟩
    clear f24 f25 f26 f27 f28 f29 f30 f31
    have Hn := hid' (Hn.out.kept ((Kept.refl w5).trans hk))
    have Hd := hid' (Hd.out.kept ((Kept.refl w5).trans hk))
    have Hr := hid' (Hr.out.kept ((Kept.refl w5).trans hk))
    have Hma := hid' (Hma.out.kept ((Kept.refl w5).trans hk))
    have Hmb := hid' (Hmb.out.kept ((Kept.refl w5).trans hk))
    have HK := hid' (HK.out.trans ((Kept.refl w5).trans hk))
    have HA := hid' (And.intro (HA.out.1.kept ((Kept.refl w5).trans hk)) (And.intro (HA.out.2.1.kept ((Kept.refl w5).trans hk)) HA.out.2.2))
    have HB := hid' (And.intro (HB.out.1.kept ((Kept.refl w5).trans hk)) (And.intro (HB.out.2.1.kept ((Kept.refl w5).trans hk)) HB.out.2.2))
    have hRe := hR.one HR5.out
    subst hRe
    clear hR HR5
    clear hk
    have f32 := Hn.out.c0
    have f33 := Hn.out.c1
    have f34 := Hd.out.c0
    have f35 := Hd.out.c1
    have f36 := Hr.out.c0
    have f37 := Hr.out.c1
    have f38 := Hr.out.c2
    have f39 := Hr.out.c3
    go_wp2_with fail
    refine (Whole_all m n a1 a2 k1 c1 k2 c2 a d x x1 i1 j1 an _ (HG.out.2.2.1.kept (HK.out.trans (Kept.refl w6))) (HG.out.2.2.2.kept (HK.out.trans (Kept.refl w6))) (HG.out.1.kept (HK.out.trans (Kept.refl w6))) HL.out.2.2.1 HL.out.2.2.2 HL.out.1).mono ?_
    rintro e w7 ⟨hk, hM⟩
    clear f32 f33 f34 f35 f36 f37 f38 f39
    have Hn := hid' (Hn.out.kept ((Kept.refl w6).trans hk))
    have Hd := hid' (Hd.out.kept ((Kept.refl w6).trans hk))
    have Hr := hid' (Hr.out.kept ((Kept.refl w6).trans hk))
    have Hma := hid' (Hma.out.kept ((Kept.refl w6).trans hk))
    have Hmb := hid' (Hmb.out.kept ((Kept.refl w6).trans hk))
    have HK := hid' (HK.out.trans ((Kept.refl w6).trans hk))
    have HA := hid' (And.intro (HA.out.1.kept ((Kept.refl w6).trans hk)) (And.intro (HA.out.2.1.kept ((Kept.refl w6).trans hk)) HA.out.2.2))
    have HB := hid' (And.intro (HB.out.1.kept ((Kept.refl w6).trans hk)) (And.intro (HB.out.2.1.kept ((Kept.refl w6).trans hk)) HB.out.2.2))
    obtain ⟨sC, oC, kC, cC, eC, lC, rfl, hsC, hlC, hcC⟩ := hM.canon
    have HC := hid' (And.intro hsC (And.intro hlC hcC))
    clear hM hsC hlC hcC
    clear hk
    have f40 := fun x0 => (Hn.out.kept ((Kept.refl w7).alloc x0)).c0
    have f41 := fun x0 => (Hn.out.kept ((Kept.refl w7).alloc x0)).c1
    have f42 := fun x0 => (Hd.out.kept ((Kept.refl w7).alloc x0)).c0
    have f43 := fun x0 => (Hd.out.kept ((Kept.refl w7).alloc x0)).c1
    have f44 := fun x0 => (Hr.out.kept ((Kept.refl w7).alloc x0)).c0
    have f45 := fun x0 => (Hr.out.kept ((Kept.refl w7).alloc x0)).c1
    have f46 := fun x0 => (Hr.out.kept ((Kept.refl w7).alloc x0)).c2
    have f47 := fun x0 => (Hr.out.kept ((Kept.refl w7).alloc x0)).c3
    go_wp2_with fail
    refine (RWhole_any m n a1 a2 k1 c1 k2 c2 a d x x1 i1 j1 an _ (HG.out.2.2.1.kept (HK.out.trans ((Kept.refl w7).alloc _))) (HG.out.2.2.2.kept (HK.out.trans ((Kept.refl w7).alloc _))) (HG.out.1.kept (HK.out.trans ((Kept.refl w7).alloc _))) HL.out.2.2.1 HL.out.2.2.2 HL.out.1).mono ?_
    rintro e w8 ⟨hk, hM⟩
    clear f40 f41 f42 f43 f44 f45 f46 f47
    have Hwa' := (IRow.alloc w7 (.bool sC) (.slice oC kC cC)).kept ((Kept.refl _).trans hk)
    have Hwa := hid' Hwa'
    clear Hwa'
    have Hn := hid' (Hn.out.kept (((Kept.refl w7).alloc _).trans hk))
    have Hd := hid' (Hd.out.kept (((Kept.refl w7).alloc _).trans hk))
    have Hr := hid' (Hr.out.kept (((Kept.refl w7).alloc _).trans hk))
    have Hma := hid' (Hma.out.kept (((Kept.refl w7).alloc _).trans hk))
    have Hmb := hid' (Hmb.out.kept (((Kept.refl w7).alloc _).trans hk))
    have HK := hid' (HK.out.trans (((Kept.refl w7).alloc _).trans hk))
    have HA := hid' (And.intro (HA.out.1.kept (((Kept.refl w7).alloc _).trans hk)) (And.intro (HA.out.2.1.kept (((Kept.refl w7).alloc _).trans hk)) HA.out.2.2))
    have HB := hid' (And.intro (HB.out.1.kept (((Kept.refl w7).alloc _).trans hk)) (And.intro (HB.out.2.1.kept (((Kept.refl w7).alloc _).trans hk)) HB.out.2.2))
    have HC := hid' (And.intro (HC.out.1.kept (((Kept.refl w7).alloc _).trans hk)) HC.out.2)
    obtain ⟨sD, oD, kD, cD, eD, lD, rfl, hsD, hlD, hcD⟩ := hM.canon
    have HD := hid' (And.intro hsD (And.intro hlD hcD))
    clear hM hsD hlD hcD
    clear hk
    obtain ⟨rfl, rfl, rfl⟩ := WCanon.one HC.out.2.2 HD.out.2.2
    go_upto_region 11 with fail
    have hk := (Kept.refl w8).alloc (.cells #[.bool sD, .slice oD kD cD] 24)
    have Hwb := IRow.alloc w8 (.bool sD) (.slice oD kD cD)
    generalize w8.alloc (.cells #[.bool sD, .slice oD kD cD] 24) = W9 at hk Hwb ⊢
    have Hma := Hma.out.kept hk
    have Hmb := Hmb.out.kept hk
    have Hwa := Hwa.out.kept hk
    have Hr := Hr.out.kept hk
    have HK := hid' (HK.out.trans hk)
    have HA := hid' (And.intro (HA.out.1.kept hk) (And.intro (HA.out.2.1.kept hk) HA.out.2.2))
    have HB := hid' (And.intro (HB.out.1.kept hk) (And.intro (HB.out.2.1.kept hk) HB.out.2.2))
    have HC := hid' (And.intro (HC.out.1.kept hk) HC.out.2)
    have HD := hid' (And.intro (HD.out.1.kept hk) HD.out.2)
    obtain ⟨pa, hpa⟩ : ∃ p, p = w3.heap.size := ⟨_, rfl⟩
    obtain ⟨pb, hpb⟩ : ∃ p, p = w4.heap.size := ⟨_, rfl⟩
    obtain ⟨pc, hpc⟩ : ∃ p, p = w7.heap.size := ⟨_, rfl⟩
    obtain ⟨pd, hpd⟩ : ∃ p, p = w8.heap.size := ⟨_, rfl⟩
    obtain ⟨pr, hpr⟩ : ∃ p, p = w.heap.size + 1 + 1 := ⟨_, rfl⟩
    rw [← hpa] at Hma ⊢
    rw [← hpb] at Hmb ⊢
    rw [← hpc] at Hwa ⊢
    rw [← hpd] at Hwb ⊢
    rw [← hpr] at Hr ⊢
    have HV : Hid (∀ V, Kept W9 V → Five V pa pb pr pc pd sB oA kA cA tB pA gA hA oB kB cB pB gB hB m a1 k1 c1 n a2 k2 c2 sD oC kC cC oD kD cD ∧ Kept w V) := fun V hV => ⟨⟨Hma.kept hV, Hmb.kept hV, Hr.kept hV, Hwa.kept hV, Hwb.kept hV⟩, HK.out.trans hV⟩
    obtain ⟨q0, q1, q2, q3, q4, q5, q6, q7, q8, q9, q10, q11, q12, q13, q14, q15⟩ := (HV.out _ (Kept.refl W9)).1.cells
    have HLL := hid' (And.intro HA.out.2.2.1 (And.intro HA.out.2.2.2.1 HC.out.2.1))
    clear hk Hma Hmb Hwa Hwb Hr hpa hpb hpc hpd hpr
    go_region_held3 (fun w' => w'.cell? ⟨pa, 0, none⟩ = some (.bool sB) ∧ w'.cell? ⟨pa, 1, none⟩ = some (.slice oA kA cA) ∧ w'.cell? ⟨pa, 2, none⟩ = some (.bool tB) ∧ w'.cell? ⟨pa, 3, none⟩ = some (.slice pA gA hA) ∧ w'.cell? ⟨pb, 0, none⟩ = some (.bool sB) ∧ w'.cell? ⟨pb, 1, none⟩ = some (.slice oB kB cB) ∧ w'.cell? ⟨pb, 2, none⟩ = some (.bool tB) ∧ w'.cell? ⟨pb, 3, none⟩ = some (.slice pB gB hB) ∧ w'.cell? ⟨pr, 0, none⟩ = some (.bool m) ∧ w'.cell? ⟨pr, 1, none⟩ = some (.slice a1 k1 c1) ∧ w'.cell? ⟨pr, 2, none⟩ = some (.bool n) ∧ w'.cell? ⟨pr, 3, none⟩ = some (.slice a2 k2 c2) ∧ w'.cell? ⟨pc, 0, none⟩ = some (.bool sD) ∧ w'.cell? ⟨pc, 1, none⟩ = some (.slice oC kC cC) ∧ w'.cell? ⟨pd, 0, none⟩ = some (.bool sD) ∧ w'.cell? ⟨pd, 1, none⟩ = some (.slice oD kD cD)) (go_keep) (first
      | (go_at_call 15; refine (lsame_r sB tB _ _ _ _ lB mB _ (HA.out.1.kept (Kept.refl _).drew) (HA.out.2.1.kept (Kept.refl _).drew) (HB.out.1.kept (Kept.refl _).drew) (HB.out.2.1.kept (Kept.refl _).drew) HLL.out.1 HLL.out.2.1).mono ?_; rintro e u1 ⟨rfl, hu1⟩; have K1 := (Kept.refl W9).drew.trans hu1; obtain ⟨r0, r1, r2, r3, r4, r5, r6, r7, r8, r9, r10, r11, r12, r13, r14, r15⟩ := (HV.out _ K1).1.cells)
      | (go_at_call 23; refine (same_yes sD sD _ _ lD lD _ (HC.out.1.kept K1) (HD.out.1.kept K1) (by have := HLL.out.2.2; omega) rfl rfl).mono ?_; rintro e u2 ⟨rfl, hu2⟩; have K2 := K1.trans hu2; obtain ⟨s0, s1, s2, s3, s4, s5, s6, s7, s8, s9, s10, s11, s12, s13, s14, s15⟩ := (HV.out _ K2).1.cells)
      | (go_at_call 24; refine (Check_any m n a1 a2 k1 c1 k2 c2 a d _ (HG.out.2.2.1.kept (HV.out _ K2).2) (HG.out.2.2.2.kept (HV.out _ K2).2) HL.out.2.2.1 HL.out.2.2.2).mono ?_; rintro e u3 ⟨hu3, fc, rfl, hfc⟩; have HFC := hid' (refused_c hfc); clear hfc; have K3 := K2.trans hu3; obtain ⟨t0, t1, t2, t3, t4, t5, t6, t7, t8, t9, t10, t11, t12, t13, t14, t15⟩ := (HV.out _ K3).1.cells)
      | (go_at_call 25; refine (Fault_any m n a1 a2 k1 c1 k2 c2 a d _ (HG.out.2.2.1.kept (HV.out _ K3).2) (HG.out.2.2.2.kept (HV.out _ K3).2) HL.out.2.2.1 HL.out.2.2.2).mono ?_; rintro e u4 ⟨hu4, fd, rfl, hfd⟩; obtain rfl : fd = fc := FaultC.one hfd HFC.out; clear hfd; have K4 := K3.trans hu4; obtain ⟨v0, v1, v2, v3, v4, v5, v6, v7, v8, v9, v10, v11, v12, v13, v14, v15⟩ := (HV.out _ K4).1.cells))
    have HK4 := hid' (HV.out _ K4).2
    clear q0 q1 q2 q3 q4 q5 q6 q7 q8 q9 q10 q11 q12 q13 q14 q15 r0 r1 r2 r3 r4 r5 r6 r7 r8 r9 r10 r11 r12 r13 r14 r15 s0 s1 s2 s3 s4 s5 s6 s7 s8 s9 s10 s11 s12 s13 s14 s15 t0 t1 t2 t3 t4 t5 t6 t7 t8 t9 t10 t11 t12 t13 t14 t15 v0 v1 v2 v3 v4 v5 v6 v7 v8 v9 v10 v11 v12 v13 v14 v15 hu1 hu2 hu3 hu4 K1 K2 K3 K4 HV
    go_wp2
    go_ret
    exact ⟨rfl, HK4.out⟩

end F
end Go.Proofs.YtcigcfcciggclaaGreat

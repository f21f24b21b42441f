/- The walk of RatCalls. -/
import Derived.Test.YtblpacgfgifkcaaGreatGar
import Derived.Test.YtblpacgfgifkcaaGreatFlent
import Derived.Test.YtblpacgfgifkcaaGreatGao
import Derived.Test.YtblpacgfgifkcaaGreatFawk
namespace Go.Proofs.YtblpacgfgifkcaaGreat
open Go.RowKit
namespace F
theorem RRow.all8 {w : World} {p : Nat} {x0 x1 x2 x3 : Value} (h : RRow w p x0 x1 x2 x3) : w.cell? ⟨p, 0, none⟩ = some x0 ∧ w.cell? ⟨p, 1, none⟩ = some x1 ∧ w.cell? ⟨p, 2, none⟩ = some x2 ∧ w.cell? ⟨p, 3, none⟩ = some x3 ∧ w.frozen? ⟨p, 0, none⟩ = false ∧ w.frozen? ⟨p, 1, none⟩ = false ∧ w.frozen? ⟨p, 2, none⟩ = false ∧ w.frozen? ⟨p, 3, none⟩ = false := ⟨h.c0, h.c1, h.c2, h.c3, h.fz 0, h.fz 1, h.fz 2, h.fz 3⟩
theorem RRow.put4 {w : World} {p : Nat} {x0 x1 x2 x3 : Value} (h : RRow w p x0 x1 x2 x3) (y0 y1 y2 y3 : Value) : RRow (F.put4 w p y0 y1 y2 y3) p y0 y1 y2 y3 :=
 ((World.rowIs.set (World.rowIs.set (World.rowIs.set (World.rowIs.set h 0 y0) 1 y1) 2 y2) 3 y3).congr fun i hi => by
  match i, hi with
  | 0, _ => rfl
  | 1, _ => rfl
  | 2, _ => rfl
  | 3, _ => rfl)
theorem RRow.farp {w : World} {p q : Nat} {x0 x1 x2 x3 : Value} (h : RRow w p x0 x1 x2 x3) (hne : ¬ p = q) (y0 y1 y2 y3 : Value) : RRow (F.put4 w q y0 y1 y2 y3) p x0 x1 x2 x3 :=
 World.rowIs.setOther (World.rowIs.setOther (World.rowIs.setOther (World.rowIs.setOther h hne y0) hne y1) hne y2) hne y3
theorem new_blk {B : Nat} {w : World} {ao : Option Addr} {k c : Nat} {l : List Nat} (h : New B w (.slice ao k c) l) : ∀ b, ao = some ⟨b, 0, none⟩ → B ≤ b ∧ b < w.heap.size := by
 rintro b rfl
 obtain ⟨_, ⟨h1, _⟩ | ⟨b', N, f, h1, hB, hN, hr, hf⟩⟩ := h
 ·
  simp at h1
 ·
  simp only [Value.slice.injEq, Option.some.injEq, Addr.mk.injEq] at h1
  obtain ⟨⟨rfl, _⟩, _⟩ := h1
  exact ⟨hB, hr.lt⟩
theorem New.keptB {B kb : Nat} {w w' : World} {v : Value} {l : List Nat} (h : New B w v l) (k : KeptK kb w w') (hne : kb < B ∨ w.heap.size ≤ kb) : New B w' v l := by
 obtain ⟨hb, ⟨rfl, rfl⟩ | ⟨b, N, f, rfl, hB, hN, hr, hf⟩⟩ := h
 ·
  exact ⟨hb, .inl ⟨rfl, rfl⟩⟩
 ·
  have hlt := hr.lt
  exact ⟨hb, .inr ⟨b, N, f, rfl, hB, hN, World.rowIs.of_block hr (k.block b hlt (by omega)), hf⟩⟩
theorem Lent.keptB {B kb : Nat} {w w' : World} {b n cap : Nat} {l : List Nat} (h : Lent B w b n cap l) (k : KeptK kb w w') (hne : b ≠ kb) : Lent B w' b n cap l := by
 obtain ⟨h1, hb, ⟨h2, h3⟩ | ⟨b', N, f, he, hB, hN, hr, hf⟩⟩ := h
 ·
  simp at h2
 ·
  have hlt := hr.lt
  have heb : b' = b := by simp only [Value.slice.injEq, Option.some.injEq, Addr.mk.injEq] at he; exact he.1.1.symm
  exact ⟨h1, hb, .inr ⟨b', N, f, he, hB, hN, World.rowIs.of_block hr (k.block b' hlt (by omega)), hf⟩⟩
theorem blk_in {B : Nat} {w : World} {ao : Option Addr} {k c : Nat} {l : List Nat} {q : Addr} {lo hi X b0 : Nat} (h : New B w (.slice ao k c) l) (e : ao = some q) (hb : ∀ b, ao = some ⟨b, 0, none⟩ → lo ≤ b ∧ b < hi) (h0 : ∀ b', ao = some ⟨b', 0, none⟩ → b' = b0) : lo ≤ b0 ∧ (b0 < hi ∨ X ≤ b0) := by
 obtain ⟨_, ⟨h2, _⟩ | ⟨b', N, f, he, _⟩⟩ := h
 ·
  simp only [Value.slice.injEq] at h2
  rw [h2.1] at e
  cases e
 ·
  simp only [Value.slice.injEq] at he
  have := h0 b' he.1
  subst this
  have := hb b' he.1
  exact ⟨this.1, .inl this.2⟩
theorem pick {B : Nat} {w : World} {ao : Option Addr} {k c : Nat} {l : List Nat} (h : New B w (.slice ao k c) l) : ∃ b, ((∀ b', ao = some ⟨b', 0, none⟩ → b' = b) ∧ (ao = none → w.heap.size ≤ b)) ∧ (0 < k → ao = some ⟨b, 0, none⟩ ∧ ∃ N f, k ≤ c ∧ k ≤ N ∧ w.rowIs b 40 N f) := by
 obtain ⟨hb, ⟨h2, h3⟩ | ⟨b', N, f, he, hB, hN, hr, hf⟩⟩ := h
 ·
  simp only [Value.slice.injEq] at h2
  obtain ⟨rfl, rfl, rfl⟩ := h2
  exact ⟨w.heap.size, ⟨fun b' e => by simp at e, fun _ => Nat.le_refl _⟩, fun h => by omega⟩
 ·
  simp only [Value.slice.injEq] at he
  obtain ⟨rfl, rfl, rfl⟩ := he
  exact ⟨b', ⟨fun b'' e => by simp at e; exact e.symm, fun e => by simp at e⟩, fun _ => ⟨rfl, c, f, hN, hN, hr⟩⟩
theorem row_set {w : World} {b b' N : Nat} {f : Nat → Value} (h : w.rowIs b 40 N f) (o : Nat) (u : Value) : ∃ f', (w.setCell ⟨b', o, none⟩ u).rowIs b 40 N f' := by
 by_cases e : b = b'
 ·
  subst e
  exact ⟨_, World.rowIs.set h o u⟩
 ·
  exact ⟨f, World.rowIs.setOther h e u⟩
set_option maxRecDepth 100000 in
set_option maxHeartbeats 16000000 in
theorem rcal_any (m nA n nB : Bool) (a1 a2 b1 b2 : Option Addr) (k1 c1 k2 c2 k3 c3 k4 c4 : Nat) (an ad bn bd : List Nat) (w : World) (s1 : Sl w (.slice a1 k1 c1) an) (s2 : Sl w (.slice a2 k2 c2) ad) (s3 : Sl w (.slice b1 k3 c3) bn) (s4 : Sl w (.slice b2 k4 c4) bd) (l1 : an.length ≤ 9223372036854775807) (l2 : ad.length ≤ 9223372036854775807) (l3 : bn.length ≤ 9223372036854775807) (l4 : bd.length ≤ 9223372036854775807) :
  Calls Tryz.prog 3 #[.agg #[.bool m, .slice a1 k1 c1, .bool nA, .slice a2 k2 c2], .agg #[.bool n, .slice b1 k3 c3, .bool nB, .slice b2 k4 c4]] w fun e w' => e = .returned (.bool true) ∧ Kept w w' := by
 have HG : Hid (Sl w (.slice a1 k1 c1) an ∧ Sl w (.slice a2 k2 c2) ad ∧ Sl w (.slice b1 k3 c3) bn ∧ Sl w (.slice b2 k4 c4) bd) := ⟨s1, s2, s3, s4⟩
 have HL' : Hid (an.length ≤ 9223372036854775807 ∧ ad.length ≤ 9223372036854775807 ∧ bn.length ≤ 9223372036854775807 ∧ bd.length ≤ 9223372036854775807) := ⟨l1, l2, l3, l4⟩
 have HEQ : Hid (k1 = an.length ∧ k2 = ad.length ∧ k3 = bn.length ∧ k4 = bd.length) := ⟨s1.len, s2.len, s3.len, s4.len⟩
 clear s1 s2 s3 s4 l1 l2 l3 l4
 go_enter Tryz.func3, Tryz.ntmps3
 go_wp2_with fail
 refine (awake_yes _).mono ?_
 rintro e w1 ⟨rfl, hk⟩
 have Ha := hid' ((RRow.alloc w (.bool m) (.slice a1 k1 c1) (.bool nA) (.slice a2 k2 c2)).kept (((Kept.refl _).alloc _).trans hk))
 have Hb0 := (RRow.alloc (w.alloc (.cells #[.bool m, .slice a1 k1 c1, .bool nA, .slice a2 k2 c2] 26)) (.bool n) (.slice b1 k3 c3) (.bool nB) (.slice b2 k4 c4)).kept hk
 simp only [World.size_alloc] at Hb0
 have Hb := hid' Hb0
 have HK := hid' ((((Kept.refl w).alloc _).alloc _).trans hk)
 clear hk Hb0
 obtain ⟨p3, hp3⟩ : ∃ p, p = w.heap.size + 1 := ⟨_, rfl⟩
 obtain ⟨p2, hp2⟩ : ∃ p, p = w.heap.size := ⟨_, rfl⟩
 rw [← hp3] at Hb ⊢
 rw [← hp2] at Ha ⊢
 have HPP : Hid (w.heap.size ≤ p2 ∧ w.heap.size ≤ p3) := ⟨by omega, by omega⟩
 clear hp2 hp3
 obtain ⟨f0, f1, f2, f3⟩ := rrow_all Ha.out
 obtain ⟨f4, f5, f6, f7⟩ := rrow_all Hb.out
 go_wp2_with fail
 refine (long_any w1.heap.size 4 4 _ (fun i => if i = 0 then m else if i = 1 then nA else if i = 2 then n else nB) (fun i => if i = 0 then a1 else if i = 1 then a2 else if i = 2 then b1 else b2) (fun i => if i = 0 then k1 else if i = 1 then k2 else if i = 2 then k3 else k4) (fun i => if i = 0 then c1 else if i = 1 then c2 else if i = 2 then c3 else c4) (by omega) (fun i hi => by
  match i, hi with
  | 0, _ => exact ⟨(World.cell?_alloc_at _ _ _ _ rfl).trans rfl, (World.cell?_alloc_at _ _ _ _ rfl).trans rfl⟩
  | 1, _ => exact ⟨(World.cell?_alloc_at _ _ _ _ rfl).trans rfl, (World.cell?_alloc_at _ _ _ _ rfl).trans rfl⟩
  | 2, _ => exact ⟨(World.cell?_alloc_at _ _ _ _ rfl).trans rfl, (World.cell?_alloc_at _ _ _ _ rfl).trans rfl⟩
  | 3, _ => exact ⟨(World.cell?_alloc_at _ _ _ _ rfl).trans rfl, (World.cell?_alloc_at _ _ _ _ rfl).trans rfl⟩)).mono ?_
 rintro e w2 ⟨hk, r, rfl, hr⟩
 have hk' := ((Kept.refl w1).alloc _).trans hk
 have Ha := hid' (Ha.out.kept hk')
 have Hb := hid' (Hb.out.kept hk')
 have HK2 := hid' (HK.out.trans hk')
 clear hk hk' f0 f1 f2 f3 f4 f5 f6 f7 HK
 cases r with
 | true =>
  clear hr
  go_wp2
  go_ret
  exact ⟨rfl, HK2.out⟩
 | false =>
  have HL : Hid (an.length ≤ 160 ∧ ad.length ≤ 160 ∧ bn.length ≤ 160 ∧ bd.length ≤ 160) := by
   have h := HEQ.out
   have h0 := hr rfl 0 (by omega)
   have h1 := hr rfl 1 (by omega)
   have h2 := hr rfl 2 (by omega)
   have h3 := hr rfl 3 (by omega)
   simp at h0 h1 h2 h3
   show _ ∧ _
   omega
  clear hr
  go_upto_region 5 with fail
  go_cut [5, 6] (fun s5 s6 wc => ∃ (p5 p6 x1 y1 x2 y2 x3 y3 x4 y4 : Nat), s5 = .pointer (some ⟨p5, 0, none⟩) ∧ s6 = .pointer (some ⟨p6, 0, none⟩) ∧ Hid (Kept w2 wc ∧ RRow wc p5 (.bool m) (.slice (some ⟨x1, 0, none⟩) k1 y1) (.bool nA) (.slice (some ⟨x2, 0, none⟩) k2 y2) ∧ RRow wc p6 (.bool n) (.slice (some ⟨x3, 0, none⟩) k3 y3) (.bool nB) (.slice (some ⟨x4, 0, none⟩) k4 y4) ∧ Lent w.heap.size wc x1 k1 y1 an ∧ Lent w.heap.size wc x2 k2 y2 ad ∧ Lent w.heap.size wc x3 k3 y3 bn ∧ Lent w.heap.size wc x4 k4 y4 bd))
  case first =>
   have KT : Kept w2 w2.drew := (Kept.refl _).drew
   have sS := hid' (fun (V : World) (K : Kept w2 V) => And.intro ((Ha.out.kept K).c0) (And.intro ((Ha.out.kept K).c1) (And.intro ((Ha.out.kept K).c2) (And.intro ((Ha.out.kept K).c3) (And.intro ((Hb.out.kept K).c0) (And.intro ((Hb.out.kept K).c1) (And.intro ((Hb.out.kept K).c2) ((Hb.out.kept K).c3))))))))
   refine wp_region_held_drew (S := fun w' => w'.cell? ⟨p2, 0, none⟩ = some (.bool m) ∧ w'.cell? ⟨p2, 1, none⟩ = some (.slice a1 k1 c1) ∧ w'.cell? ⟨p2, 2, none⟩ = some (.bool nA) ∧ w'.cell? ⟨p2, 3, none⟩ = some (.slice a2 k2 c2) ∧ w'.cell? ⟨p3, 0, none⟩ = some (.bool n) ∧ w'.cell? ⟨p3, 1, none⟩ = some (.slice b1 k3 c3) ∧ w'.cell? ⟨p3, 2, none⟩ = some (.bool nB) ∧ w'.cell? ⟨p3, 3, none⟩ = some (.slice b2 k4 c4)) (by kernel_rfl) (sS.out _ KT) (fun hHeld => ?_)
   generalize w2.drew = Wd at KT hHeld ⊢
   refine wpAnyH_take (i := 0) (v := ?vcx0x1) rfl (by kernel_rfl) (by kernel_rfl) (by kernel_rfl) (fun _ _ _ h => h) (Or.inl ⟨by rfl, ?ycx0x1⟩) hHeld ?rcx0x1
   case ycx0x1 =>
    intro w' hSw
    obtain ⟨hSw0, hSw1, hSw2, hSw3, hSw4, hSw5, hSw6, hSw7⟩ := hSw
    go_simp
    with_reducible rfl
   case rcx0x1 =>
   refine wpAnyH_take (i := 2) (v := ?vcx2x2) rfl (by kernel_rfl) (by kernel_rfl) (by kernel_rfl) (fun _ _ _ h => h) (Or.inl ⟨by rfl, ?ycx2x2⟩) hHeld ?rcx2x2
   case ycx2x2 =>
    intro w' hSw
    obtain ⟨hSw0, hSw1, hSw2, hSw3, hSw4, hSw5, hSw6, hSw7⟩ := hSw
    go_simp
    with_reducible rfl
   case rcx2x2 =>
   refine wpAnyH_ready (rs := [1, 4, 5]) (by kernel_rfl) (by simp) ?_
   refine AllReadyH.cons rfl (fun K hK => ?_) ?_
   ·
    go_simp
    refine (rlent_any m nA a1 a2 k1 c1 k2 c2 an ad _ (HG.out.1.kept (HK2.out.trans KT)) (HG.out.2.1.kept (HK2.out.trans KT)) HL.out.1 HL.out.2.1).mono ?_
    rintro e w3 ⟨hk3, x1, y1, x2, y2, rfl, n3, n4⟩
    have n3 := Lent.mono n3 (HK2.out.trans KT).size
    have n4 := Lent.mono n4 (HK2.out.trans KT).size
    refine hK.out _ _ (sS.out _ (KT.trans hk3)) (fun hHeld => ?_)
    clear hK K
    have KT := KT.trans hk3
    refine wpAnyH_ready (rs := [3, 4, 5]) (by kernel_rfl) (by simp) ?_
    refine AllReadyH.cons rfl (fun K hK => ?_) ?_
    ·
     go_simp
     refine (rlent_any n nB b1 b2 k3 c3 k4 c4 bn bd _ (HG.out.2.2.1.kept (HK2.out.trans KT)) (HG.out.2.2.2.kept (HK2.out.trans KT)) HL.out.2.2.1 HL.out.2.2.2).mono ?_
     rintro e w5 ⟨hk5, x3, y3, x4, y4, rfl, n5, n6⟩
     have n5 := Lent.mono n5 (HK2.out.trans KT).size
     have n6 := Lent.mono n6 (HK2.out.trans KT).size
     refine hK.out _ _ (sS.out _ (KT.trans hk5)) (fun hHeld => ?_)
     clear hK K
     have n3 := Lent.kept n3 hk5
     have n4 := Lent.kept n4 hk5
     have KT := KT.trans hk5
     refine wpAnyH_ready (rs := [4, 5]) (by kernel_rfl) (by simp) ?_
     refine AllReadyH.cons rfl (fun K hK => ?_) ?_
     ·
      go_simp
      refine hK.out _ _ (sS.out _ (KT.alloc _)) (fun hHeld => ?_)
      clear hK K
      have zp5 := RRow.alloc w5 (.bool false) (.slice none 0 0) (.bool false) (.slice none 0 0)
      have hgp5 : w2.heap.size ≤ w5.heap.size := KT.size
      have n3 := Lent.kept n3 ((Kept.refl w5).alloc (.cells #[.bool false, .slice none 0 0, .bool false, .slice none 0 0] 26))
      have n4 := Lent.kept n4 ((Kept.refl w5).alloc (.cells #[.bool false, .slice none 0 0, .bool false, .slice none 0 0] 26))
      have n5 := Lent.kept n5 ((Kept.refl w5).alloc (.cells #[.bool false, .slice none 0 0, .bool false, .slice none 0 0] 26))
      have n6 := Lent.kept n6 ((Kept.refl w5).alloc (.cells #[.bool false, .slice none 0 0, .bool false, .slice none 0 0] 26))
      have KT := KT.alloc (.cells #[.bool false, .slice none 0 0, .bool false, .slice none 0 0] 26)
      obtain ⟨p5, hpp5⟩ : ∃ p, p = w5.heap.size := ⟨_, rfl⟩
      rw [← hpp5] at zp5 hgp5  ⊢
      generalize w5.alloc (.cells #[.bool false, .slice none 0 0, .bool false, .slice none 0 0] 26) = Wa4 at zp5  n3 n4 n5 n6 KT hHeld ⊢
      clear hpp5
      refine wpAnyH_ready (rs := [5]) (by kernel_rfl) (by simp) ?_
      refine AllReadyH.cons rfl (fun K hK => ?_) AllReadyH.nil
      go_simp
      refine hK.out _ _ (sS.out _ (KT.alloc _)) (fun hHeld => ?_)
      clear hK K
      have zp6 := RRow.alloc Wa4 (.bool false) (.slice none 0 0) (.bool false) (.slice none 0 0)
      have hgp6 : w2.heap.size ≤ Wa4.heap.size := KT.size
      have dp6p5 : ¬ (Wa4.heap.size = p5) := by have := zp5.lt; omega
      have dp5p6 : ¬ (p5 = Wa4.heap.size) := by have := zp5.lt; omega
      have zp5 := zp5.kept ((Kept.refl Wa4).alloc (.cells #[.bool false, .slice none 0 0, .bool false, .slice none 0 0] 26))
      have n3 := Lent.kept n3 ((Kept.refl Wa4).alloc (.cells #[.bool false, .slice none 0 0, .bool false, .slice none 0 0] 26))
      have n4 := Lent.kept n4 ((Kept.refl Wa4).alloc (.cells #[.bool false, .slice none 0 0, .bool false, .slice none 0 0] 26))
      have n5 := Lent.kept n5 ((Kept.refl Wa4).alloc (.cells #[.bool false, .slice none 0 0, .bool false, .slice none 0 0] 26))
      have n6 := Lent.kept n6 ((Kept.refl Wa4).alloc (.cells #[.bool false, .slice none 0 0, .bool false, .slice none 0 0] 26))
      have KT := KT.alloc (.cells #[.bool false, .slice none 0 0, .bool false, .slice none 0 0] 26)
      obtain ⟨p6, hpp6⟩ : ∃ p, p = Wa4.heap.size := ⟨_, rfl⟩
      rw [← hpp6] at zp6 hgp6 dp6p5 dp5p6 ⊢
      generalize Wa4.alloc (.cells #[.bool false, .slice none 0 0, .bool false, .slice none 0 0] 26) = Wa5 at zp6 zp5 n3 n4 n5 n6 KT hHeld ⊢
      clear hpp6
      obtain ⟨cp50, cp51, cp52, cp53, gp50, gp51, gp52, gp53⟩ := zp5.all8
      refine wpAnyH_ready (rs := [6]) (by kernel_rfl) (by simp) ?_
      refine AllReadyH.cons rfl (fun K hK => ?_) AllReadyH.nil
      go_simp
      refine hK.out _ _ (sS.out _ (Kept.put4 KT hgp5 _ _ _ _)) (fun hHeld => ?_)
      clear hK K
      have ep5 := zp5.put4 (.bool m) (.slice (some ⟨x1, 0, none⟩) k1 y1) (.bool nA) (.slice (some ⟨x2, 0, none⟩) k2 y2)
      have n3 := Lent.rput4 n3 zp5 (.bool m) (.slice (some ⟨x1, 0, none⟩) k1 y1) (.bool nA) (.slice (some ⟨x2, 0, none⟩) k2 y2)
      have n4 := Lent.rput4 n4 zp5 (.bool m) (.slice (some ⟨x1, 0, none⟩) k1 y1) (.bool nA) (.slice (some ⟨x2, 0, none⟩) k2 y2)
      have n5 := Lent.rput4 n5 zp5 (.bool m) (.slice (some ⟨x1, 0, none⟩) k1 y1) (.bool nA) (.slice (some ⟨x2, 0, none⟩) k2 y2)
      have n6 := Lent.rput4 n6 zp5 (.bool m) (.slice (some ⟨x1, 0, none⟩) k1 y1) (.bool nA) (.slice (some ⟨x2, 0, none⟩) k2 y2)
      have zp6 := zp6.farp dp6p5 (.bool m) (.slice (some ⟨x1, 0, none⟩) k1 y1) (.bool nA) (.slice (some ⟨x2, 0, none⟩) k2 y2)
      have KT := Kept.put4 KT hgp5 (.bool m) (.slice (some ⟨x1, 0, none⟩) k1 y1) (.bool nA) (.slice (some ⟨x2, 0, none⟩) k2 y2)
      clear cp50 cp51 cp52 cp53 gp50 gp51 gp52 gp53 zp5
      unfold put4 at n3 n4 n5 n6 KT ep5 zp6
      generalize (((Wa5.setCell ⟨p5, 0, none⟩ (.bool m)).setCell ⟨p5, 1, none⟩ (.slice (some ⟨x1, 0, none⟩) k1 y1)).setCell ⟨p5, 2, none⟩ (.bool nA)).setCell ⟨p5, 3, none⟩ (.slice (some ⟨x2, 0, none⟩) k2 y2) = Ws0 at ep5 zp6 n3 n4 n5 n6 KT hHeld ⊢
      obtain ⟨cp60, cp61, cp62, cp63, gp60, gp61, gp62, gp63⟩ := zp6.all8
      refine wpAnyH_ready (rs := [7]) (by kernel_rfl) (by simp) ?_
      refine AllReadyH.cons rfl (fun K hK => ?_) AllReadyH.nil
      go_simp
      refine hK.out _ _ (sS.out _ (Kept.put4 KT hgp6 _ _ _ _)) (fun hHeld => ?_)
      clear hK K
      have ep6 := zp6.put4 (.bool n) (.slice (some ⟨x3, 0, none⟩) k3 y3) (.bool nB) (.slice (some ⟨x4, 0, none⟩) k4 y4)
      have ep5 := ep5.farp dp5p6 (.bool n) (.slice (some ⟨x3, 0, none⟩) k3 y3) (.bool nB) (.slice (some ⟨x4, 0, none⟩) k4 y4)
      have n3 := Lent.rput4 n3 zp6 (.bool n) (.slice (some ⟨x3, 0, none⟩) k3 y3) (.bool nB) (.slice (some ⟨x4, 0, none⟩) k4 y4)
      have n4 := Lent.rput4 n4 zp6 (.bool n) (.slice (some ⟨x3, 0, none⟩) k3 y3) (.bool nB) (.slice (some ⟨x4, 0, none⟩) k4 y4)
      have n5 := Lent.rput4 n5 zp6 (.bool n) (.slice (some ⟨x3, 0, none⟩) k3 y3) (.bool nB) (.slice (some ⟨x4, 0, none⟩) k4 y4)
      have n6 := Lent.rput4 n6 zp6 (.bool n) (.slice (some ⟨x3, 0, none⟩) k3 y3) (.bool nB) (.slice (some ⟨x4, 0, none⟩) k4 y4)
      have KT := Kept.put4 KT hgp6 (.bool n) (.slice (some ⟨x3, 0, none⟩) k3 y3) (.bool nB) (.slice (some ⟨x4, 0, none⟩) k4 y4)
      clear cp60 cp61 cp62 cp63 gp60 gp61 gp62 gp63 zp6
      unfold put4 at n3 n4 n5 n6 KT ep5 ep6
      generalize (((Ws0.setCell ⟨p6, 0, none⟩ (.bool n)).setCell ⟨p6, 1, none⟩ (.slice (some ⟨x3, 0, none⟩) k3 y3)).setCell ⟨p6, 2, none⟩ (.bool nB)).setCell ⟨p6, 3, none⟩ (.slice (some ⟨x4, 0, none⟩) k4 y4) = Ws1 at ep5 ep6  n3 n4 n5 n6 KT hHeld ⊢
      refine wpAnyH_done (by kernel_rfl) ?_ _
      go_wp2_with fail
      go_meet
      case rel => exact ⟨p5, p6, x1, y1, x2, y2, x3, y3, x4, y4, rfl, rfl, KT, ep5, ep6, n3, n4, n5, n6⟩
     refine AllReadyH.cons rfl (fun K hK => ?_) AllReadyH.nil
     go_simp
     refine hK.out _ _ (sS.out _ (KT.alloc _)) (fun hHeld => ?_)
     clear hK K
     have zp6 := RRow.alloc w5 (.bool false) (.slice none 0 0) (.bool false) (.slice none 0 0)
     have hgp6 : w2.heap.size ≤ w5.heap.size := KT.size
     have n3 := Lent.kept n3 ((Kept.refl w5).alloc (.cells #[.bool false, .slice none 0 0, .bool false, .slice none 0 0] 26))
     have n4 := Lent.kept n4 ((Kept.refl w5).alloc (.cells #[.bool false, .slice none 0 0, .bool false, .slice none 0 0] 26))
     have n5 := Lent.kept n5 ((Kept.refl w5).alloc (.cells #[.bool false, .slice none 0 0, .bool false, .slice none 0 0] 26))
     have n6 := Lent.kept n6 ((Kept.refl w5).alloc (.cells #[.bool false, .slice none 0 0, .bool false, .slice none 0 0] 26))
     have KT := KT.alloc (.cells #[.bool false, .slice none 0 0, .bool false, .slice none 0 0] 26)
     obtain ⟨p6, hpp6⟩ : ∃ p, p = w5.heap.size := ⟨_, rfl⟩
     rw [← hpp6] at zp6 hgp6  ⊢
     generalize w5.alloc (.cells #[.bool false, .slice none 0 0, .bool false, .slice none 0 0] 26) = Wa5 at zp6  n3 n4 n5 n6 KT hHeld ⊢
     clear hpp6
     refine wpAnyH_ready (rs := [4]) (by kernel_rfl) (by simp) ?_
     refine AllReadyH.cons rfl (fun K hK => ?_) AllReadyH.nil
     go_simp
     refine hK.out _ _ (sS.out _ (KT.alloc _)) (fun hHeld => ?_)
     clear hK K
     have zp5 := RRow.alloc Wa5 (.bool false) (.slice none 0 0) (.bool false) (.slice none 0 0)
     have hgp5 : w2.heap.size ≤ Wa5.heap.size := KT.size
     have dp5p6 : ¬ (Wa5.heap.size = p6) := by have := zp6.lt; omega
     have dp6p5 : ¬ (p6 = Wa5.heap.size) := by have := zp6.lt; omega
     have zp6 := zp6.kept ((Kept.refl Wa5).alloc (.cells #[.bool false, .slice none 0 0, .bool false, .slice none 0 0] 26))
     have n3 := Lent.kept n3 ((Kept.refl Wa5).alloc (.cells #[.bool false, .slice none 0 0, .bool false, .slice none 0 0] 26))
     have n4 := Lent.kept n4 ((Kept.refl Wa5).alloc (.cells #[.bool false, .slice none 0 0, .bool false, .slice none 0 0] 26))
     have n5 := Lent.kept n5 ((Kept.refl Wa5).alloc (.cells #[.bool false, .slice none 0 0, .bool false, .slice none 0 0] 26))
     have n6 := Lent.kept n6 ((Kept.refl Wa5).alloc (.cells #[.bool false, .slice none 0 0, .bool false, .slice none 0 0] 26))
     have KT := KT.alloc (.cells #[.bool false, .slice none 0 0, .bool false, .slice none 0 0] 26)
     obtain ⟨p5, hpp5⟩ : ∃ p, p = Wa5.heap.size := ⟨_, rfl⟩
     rw [← hpp5] at zp5 hgp5 dp5p6 dp6p5 ⊢
     generalize Wa5.alloc (.cells #[.bool false, .slice none 0 0, .bool false, .slice none 0 0] 26) = Wa4 at zp5 zp6 n3 n4 n5 n6 KT hHeld ⊢
     clear hpp5
     obtain ⟨cp50, cp51, cp52, cp53, gp50, gp51, gp52, gp53⟩ := zp5.all8
     refine wpAnyH_ready (rs := [6]) (by kernel_rfl) (by simp) ?_
     refine AllReadyH.cons rfl (fun K hK => ?_) AllReadyH.nil
     go_simp
     refine hK.out _ _ (sS.out _ (Kept.put4 KT hgp5 _ _ _ _)) (fun hHeld => ?_)
     clear hK K
     have ep5 := zp5.put4 (.bool m) (.slice (some ⟨x1, 0, none⟩) k1 y1) (.bool nA) (.slice (some ⟨x2, 0, none⟩) k2 y2)
     have n3 := Lent.rput4 n3 zp5 (.bool m) (.slice (some ⟨x1, 0, none⟩) k1 y1) (.bool nA) (.slice (some ⟨x2, 0, none⟩) k2 y2)
     have n4 := Lent.rput4 n4 zp5 (.bool m) (.slice (some ⟨x1, 0, none⟩) k1 y1) (.bool nA) (.slice (some ⟨x2, 0, none⟩) k2 y2)
     have n5 := Lent.rput4 n5 zp5 (.bool m) (.slice (some ⟨x1, 0, none⟩) k1 y1) (.bool nA) (.slice (some ⟨x2, 0, none⟩) k2 y2)
     have n6 := Lent.rput4 n6 zp5 (.bool m) (.slice (some ⟨x1, 0, none⟩) k1 y1) (.bool nA) (.slice (some ⟨x2, 0, none⟩) k2 y2)
     have zp6 := zp6.farp dp6p5 (.bool m) (.slice (some ⟨x1, 0, none⟩) k1 y1) (.bool nA) (.slice (some ⟨x2, 0, none⟩) k2 y2)
     have KT := Kept.put4 KT hgp5 (.bool m) (.slice (some ⟨x1, 0, none⟩) k1 y1) (.bool nA) (.slice (some ⟨x2, 0, none⟩) k2 y2)
     clear cp50 cp51 cp52 cp53 gp50 gp51 gp52 gp53 zp5
     unfold put4 at n3 n4 n5 n6 KT ep5 zp6
     generalize (((Wa4.setCell ⟨p5, 0, none⟩ (.bool m)).setCell ⟨p5, 1, none⟩ (.slice (some ⟨x1, 0, none⟩) k1 y1)).setCell ⟨p5, 2, none⟩ (.bool nA)).setCell ⟨p5, 3, none⟩ (.slice (some ⟨x2, 0, none⟩) k2 y2) = Ws0 at ep5 zp6 n3 n4 n5 n6 KT hHeld ⊢
     obtain ⟨cp60, cp61, cp62, cp63, gp60, gp61, gp62, gp63⟩ := zp6.all8
     refine wpAnyH_ready (rs := [7]) (by kernel_rfl) (by simp) ?_
     refine AllReadyH.cons rfl (fun K hK => ?_) AllReadyH.nil
     go_simp
     refine hK.out _ _ (sS.out _ (Kept.put4 KT hgp6 _ _ _ _)) (fun hHeld => ?_)
     clear hK K
     have ep6 := zp6.put4 (.bool n) (.slice (some ⟨x3, 0, none⟩) k3 y3) (.bool nB) (.slice (some ⟨x4, 0, none⟩) k4 y4)
     have ep5 := ep5.farp dp5p6 (.bool n) (.slice (some ⟨x3, 0, none⟩) k3 y3) (.bool nB) (.slice (some ⟨x4, 0, none⟩) k4 y4)
     have n3 := Lent.rput4 n3 zp6 (.bool n) (.slice (some ⟨x3, 0, none⟩) k3 y3) (.bool nB) (.slice (some ⟨x4, 0, none⟩) k4 y4)
     have n4 := Lent.rput4 n4 zp6 (.bool n) (.slice (some ⟨x3, 0, none⟩) k3 y3) (.bool nB) (.slice (some ⟨x4, 0, none⟩) k4 y4)
     have n5 := Lent.rput4 n5 zp6 (.bool n) (.slice (some ⟨x3, 0, none⟩) k3 y3) (.bool nB) (.slice (some ⟨x4, 0, none⟩) k4 y4)
     have n6 := Lent.rput4 n6 zp6 (.bool n) (.slice (some ⟨x3, 0, none⟩) k3 y3) (.bool nB) (.slice (some ⟨x4, 0, none⟩) k4 y4)
     have KT := Kept.put4 KT hgp6 (.bool n) (.slice (some ⟨x3, 0, none⟩) k3 y3) (.bool nB) (.slice (some ⟨x4, 0, none⟩) k4 y4)
     clear cp60 cp61 cp62 cp63 gp60 gp61 gp62 gp63 zp6
     unfold put4 at n3 n4 n5 n6 KT ep5 ep6
     generalize (((Ws0.setCell ⟨p6, 0, none⟩ (.bool n)).setCell ⟨p6, 1, none⟩ (.slice (some ⟨x3, 0, none⟩) k3 y3)).setCell ⟨p6, 2, none⟩ (.bool nB)).setCell ⟨p6, 3, none⟩ (.slice (some ⟨x4, 0, none⟩) k4 y4) = Ws1 at ep5 ep6  n3 n4 n5 n6 KT hHeld ⊢
     refine wpAnyH_done (by kernel_rfl) ?_ _
     go_wp2_with fail
     go_meet
     case rel => exact ⟨p5, p6, x1, y1, x2, y2, x3, y3, x4, y4, rfl, rfl, KT, ep5, ep6, n3, n4, n5, n6⟩
    refine AllReadyH.cons rfl (fun K hK => ?_) ?_
    ·
     go_simp
     refine hK.out _ _ (sS.out _ (KT.alloc _)) (fun hHeld => ?_)
     clear hK K
     have zp5 := RRow.alloc w3 (.bool false) (.slice none 0 0) (.bool false) (.slice none 0 0)
     have hgp5 : w2.heap.size ≤ w3.heap.size := KT.size
     have n3 := Lent.kept n3 ((Kept.refl w3).alloc (.cells #[.bool false, .slice none 0 0, .bool false, .slice none 0 0] 26))
     have n4 := Lent.kept n4 ((Kept.refl w3).alloc (.cells #[.bool false, .slice none 0 0, .bool false, .slice none 0 0] 26))
     have KT := KT.alloc (.cells #[.bool false, .slice none 0 0, .bool false, .slice none 0 0] 26)
     obtain ⟨p5, hpp5⟩ : ∃ p, p = w3.heap.size := ⟨_, rfl⟩
     rw [← hpp5] at zp5 hgp5  ⊢
     generalize w3.alloc (.cells #[.bool false, .slice none 0 0, .bool false, .slice none 0 0] 26) = Wa4 at zp5  n3 n4 KT hHeld ⊢
     clear hpp5
     refine wpAnyH_ready (rs := [3, 5]) (by kernel_rfl) (by simp) ?_
     refine AllReadyH.cons rfl (fun K hK => ?_) ?_
     ·
      go_simp
      refine (rlent_any n nB b1 b2 k3 c3 k4 c4 bn bd _ (HG.out.2.2.1.kept (HK2.out.trans KT)) (HG.out.2.2.2.kept (HK2.out.trans KT)) HL.out.2.2.1 HL.out.2.2.2).mono ?_
      rintro e w5 ⟨hk5, x3, y3, x4, y4, rfl, n5, n6⟩
      have n5 := Lent.mono n5 (HK2.out.trans KT).size
      have n6 := Lent.mono n6 (HK2.out.trans KT).size
      refine hK.out _ _ (sS.out _ (KT.trans hk5)) (fun hHeld => ?_)
      clear hK K
      have zp5 := zp5.kept hk5
      have n3 := Lent.kept n3 hk5
      have n4 := Lent.kept n4 hk5
      have KT := KT.trans hk5
      refine wpAnyH_ready (rs := [5]) (by kernel_rfl) (by simp) ?_
      refine AllReadyH.cons rfl (fun K hK => ?_) AllReadyH.nil
      go_simp
      refine hK.out _ _ (sS.out _ (KT.alloc _)) (fun hHeld => ?_)
      clear hK K
      have zp6 := RRow.alloc w5 (.bool false) (.slice none 0 0) (.bool false) (.slice none 0 0)
      have hgp6 : w2.heap.size ≤ w5.heap.size := KT.size
      have dp6p5 : ¬ (w5.heap.size = p5) := by have := zp5.lt; omega
      have dp5p6 : ¬ (p5 = w5.heap.size) := by have := zp5.lt; omega
      have zp5 := zp5.kept ((Kept.refl w5).alloc (.cells #[.bool false, .slice none 0 0, .bool false, .slice none 0 0] 26))
      have n3 := Lent.kept n3 ((Kept.refl w5).alloc (.cells #[.bool false, .slice none 0 0, .bool false, .slice none 0 0] 26))
      have n4 := Lent.kept n4 ((Kept.refl w5).alloc (.cells #[.bool false, .slice none 0 0, .bool false, .slice none 0 0] 26))
      have n5 := Lent.kept n5 ((Kept.refl w5).alloc (.cells #[.bool false, .slice none 0 0, .bool false, .slice none 0 0] 26))
      have n6 := Lent.kept n6 ((Kept.refl w5).alloc (.cells #[.bool false, .slice none 0 0, .bool false, .slice none 0 0] 26))
      have KT := KT.alloc (.cells #[.bool false, .slice none 0 0, .bool false, .slice none 0 0] 26)
      obtain ⟨p6, hpp6⟩ : ∃ p, p = w5.heap.size := ⟨_, rfl⟩
      rw [← hpp6] at zp6 hgp6 dp6p5 dp5p6 ⊢
      generalize w5.alloc (.cells #[.bool false, .slice none 0 0, .bool false, .slice none 0 0] 26) = Wa5 at zp6 zp5 n3 n4 n5 n6 KT hHeld ⊢
      clear hpp6
      obtain ⟨cp50, cp51, cp52, cp53, gp50, gp51, gp52, gp53⟩ := zp5.all8
      refine wpAnyH_ready (rs := [6]) (by kernel_rfl) (by simp) ?_
      refine AllReadyH.cons rfl (fun K hK => ?_) AllReadyH.nil
      go_simp
      refine hK.out _ _ (sS.out _ (Kept.put4 KT hgp5 _ _ _ _)) (fun hHeld => ?_)
      clear hK K
      have ep5 := zp5.put4 (.bool m) (.slice (some ⟨x1, 0, none⟩) k1 y1) (.bool nA) (.slice (some ⟨x2, 0, none⟩) k2 y2)
      have n3 := Lent.rput4 n3 zp5 (.bool m) (.slice (some ⟨x1, 0, none⟩) k1 y1) (.bool nA) (.slice (some ⟨x2, 0, none⟩) k2 y2)
      have n4 := Lent.rput4 n4 zp5 (.bool m) (.slice (some ⟨x1, 0, none⟩) k1 y1) (.bool nA) (.slice (some ⟨x2, 0, none⟩) k2 y2)
      have n5 := Lent.rput4 n5 zp5 (.bool m) (.slice (some ⟨x1, 0, none⟩) k1 y1) (.bool nA) (.slice (some ⟨x2, 0, none⟩) k2 y2)
      have n6 := Lent.rput4 n6 zp5 (.bool m) (.slice (some ⟨x1, 0, none⟩) k1 y1) (.bool nA) (.slice (some ⟨x2, 0, none⟩) k2 y2)
      have zp6 := zp6.farp dp6p5 (.bool m) (.slice (some ⟨x1, 0, none⟩) k1 y1) (.bool nA) (.slice (some ⟨x2, 0, none⟩) k2 y2)
      have KT := Kept.put4 KT hgp5 (.bool m) (.slice (some ⟨x1, 0, none⟩) k1 y1) (.bool nA) (.slice (some ⟨x2, 0, none⟩) k2 y2)
      clear cp50 cp51 cp52 cp53 gp50 gp51 gp52 gp53 zp5
      unfold put4 at n3 n4 n5 n6 KT ep5 zp6
      generalize (((Wa5.setCell ⟨p5, 0, none⟩ (.bool m)).setCell ⟨p5, 1, none⟩ (.slice (some ⟨x1, 0, none⟩) k1 y1)).setCell ⟨p5, 2, none⟩ (.bool nA)).setCell ⟨p5, 3, none⟩ (.slice (some ⟨x2, 0, none⟩) k2 y2) = Ws0 at ep5 zp6 n3 n4 n5 n6 KT hHeld ⊢
      obtain ⟨cp60, cp61, cp62, cp63, gp60, gp61, gp62, gp63⟩ := zp6.all8
      refine wpAnyH_ready (rs := [7]) (by kernel_rfl) (by simp) ?_
      refine AllReadyH.cons rfl (fun K hK => ?_) AllReadyH.nil
      go_simp
      refine hK.out _ _ (sS.out _ (Kept.put4 KT hgp6 _ _ _ _)) (fun hHeld => ?_)
      clear hK K
      have ep6 := zp6.put4 (.bool n) (.slice (some ⟨x3, 0, none⟩) k3 y3) (.bool nB) (.slice (some ⟨x4, 0, none⟩) k4 y4)
      have ep5 := ep5.farp dp5p6 (.bool n) (.slice (some ⟨x3, 0, none⟩) k3 y3) (.bool nB) (.slice (some ⟨x4, 0, none⟩) k4 y4)
      have n3 := Lent.rput4 n3 zp6 (.bool n) (.slice (some ⟨x3, 0, none⟩) k3 y3) (.bool nB) (.slice (some ⟨x4, 0, none⟩) k4 y4)
      have n4 := Lent.rput4 n4 zp6 (.bool n) (.slice (some ⟨x3, 0, none⟩) k3 y3) (.bool nB) (.slice (some ⟨x4, 0, none⟩) k4 y4)
      have n5 := Lent.rput4 n5 zp6 (.bool n) (.slice (some ⟨x3, 0, none⟩) k3 y3) (.bool nB) (.slice (some ⟨x4, 0, none⟩) k4 y4)
      have n6 := Lent.rput4 n6 zp6 (.bool n) (.slice (some ⟨x3, 0, none⟩) k3 y3) (.bool nB) (.slice (some ⟨x4, 0, none⟩) k4 y4)
      have KT := Kept.put4 KT hgp6 (.bool n) (.slice (some ⟨x3, 0, none⟩) k3 y3) (.bool nB) (.slice (some ⟨x4, 0, none⟩) k4 y4)
      clear cp60 cp61 cp62 cp63 gp60 gp61 gp62 gp63 zp6
      unfold put4 at n3 n4 n5 n6 KT ep5 ep6
      generalize (((Ws0.setCell ⟨p6, 0, none⟩ (.bool n)).setCell ⟨p6, 1, none⟩ (.slice (some ⟨x3, 0, none⟩) k3 y3)).setCell ⟨p6, 2, none⟩ (.bool nB)).setCell ⟨p6, 3, none⟩ (.slice (some ⟨x4, 0, none⟩) k4 y4) = Ws1 at ep5 ep6  n3 n4 n5 n6 KT hHeld ⊢
      refine wpAnyH_done (by kernel_rfl) ?_ _
      go_wp2_with fail
      go_meet
      case rel => exact ⟨p5, p6, x1, y1, x2, y2, x3, y3, x4, y4, rfl, rfl, KT, ep5, ep6, n3, n4, n5, n6⟩
     refine AllReadyH.cons rfl (fun K hK => ?_) AllReadyH.nil
     go_simp
     refine hK.out _ _ (sS.out _ (KT.alloc _)) (fun hHeld => ?_)
     clear hK K
     have zp6 := RRow.alloc Wa4 (.bool false) (.slice none 0 0) (.bool false) (.slice none 0 0)
     have hgp6 : w2.heap.size ≤ Wa4.heap.size := KT.size
     have dp6p5 : ¬ (Wa4.heap.size = p5) := by have := zp5.lt; omega
     have dp5p6 : ¬ (p5 = Wa4.heap.size) := by have := zp5.lt; omega
     have zp5 := zp5.kept ((Kept.refl Wa4).alloc (.cells #[.bool false, .slice none 0 0, .bool false, .slice none 0 0] 26))
     have n3 := Lent.kept n3 ((Kept.refl Wa4).alloc (.cells #[.bool false, .slice none 0 0, .bool false, .slice none 0 0] 26))
     have n4 := Lent.kept n4 ((Kept.refl Wa4).alloc (.cells #[.bool false, .slice none 0 0, .bool false, .slice none 0 0] 26))
     have KT := KT.alloc (.cells #[.bool false, .slice none 0 0, .bool false, .slice none 0 0] 26)
     obtain ⟨p6, hpp6⟩ : ∃ p, p = Wa4.heap.size := ⟨_, rfl⟩
     rw [← hpp6] at zp6 hgp6 dp6p5 dp5p6 ⊢
     generalize Wa4.alloc (.cells #[.bool false, .slice none 0 0, .bool false, .slice none 0 0] 26) = Wa5 at zp6 zp5 n3 n4 KT hHeld ⊢
     clear hpp6
     refine wpAnyH_ready (rs := [3]) (by kernel_rfl) (by simp) ?_
     refine AllReadyH.cons rfl (fun K hK => ?_) AllReadyH.nil
     go_simp
     refine (rlent_any n nB b1 b2 k3 c3 k4 c4 bn bd _ (HG.out.2.2.1.kept (HK2.out.trans KT)) (HG.out.2.2.2.kept (HK2.out.trans KT)) HL.out.2.2.1 HL.out.2.2.2).mono ?_
     rintro e w5 ⟨hk5, x3, y3, x4, y4, rfl, n5, n6⟩
     have n5 := Lent.mono n5 (HK2.out.trans KT).size
     have n6 := Lent.mono n6 (HK2.out.trans KT).size
     refine hK.out _ _ (sS.out _ (KT.trans hk5)) (fun hHeld => ?_)
     clear hK K
     have zp5 := zp5.kept hk5
     have zp6 := zp6.kept hk5
     have n3 := Lent.kept n3 hk5
     have n4 := Lent.kept n4 hk5
     have KT := KT.trans hk5
     obtain ⟨cp50, cp51, cp52, cp53, gp50, gp51, gp52, gp53⟩ := zp5.all8
     refine wpAnyH_ready (rs := [6]) (by kernel_rfl) (by simp) ?_
     refine AllReadyH.cons rfl (fun K hK => ?_) AllReadyH.nil
     go_simp
     refine hK.out _ _ (sS.out _ (Kept.put4 KT hgp5 _ _ _ _)) (fun hHeld => ?_)
     clear hK K
     have ep5 := zp5.put4 (.bool m) (.slice (some ⟨x1, 0, none⟩) k1 y1) (.bool nA) (.slice (some ⟨x2, 0, none⟩) k2 y2)
     have n3 := Lent.rput4 n3 zp5 (.bool m) (.slice (some ⟨x1, 0, none⟩) k1 y1) (.bool nA) (.slice (some ⟨x2, 0, none⟩) k2 y2)
     have n4 := Lent.rput4 n4 zp5 (.bool m) (.slice (some ⟨x1, 0, none⟩) k1 y1) (.bool nA) (.slice (some ⟨x2, 0, none⟩) k2 y2)
     have n5 := Lent.rput4 n5 zp5 (.bool m) (.slice (some ⟨x1, 0, none⟩) k1 y1) (.bool nA) (.slice (some ⟨x2, 0, none⟩) k2 y2)
     have n6 := Lent.rput4 n6 zp5 (.bool m) (.slice (some ⟨x1, 0, none⟩) k1 y1) (.bool nA) (.slice (some ⟨x2, 0, none⟩) k2 y2)
     have zp6 := zp6.farp dp6p5 (.bool m) (.slice (some ⟨x1, 0, none⟩) k1 y1) (.bool nA) (.slice (some ⟨x2, 0, none⟩) k2 y2)
     have KT := Kept.put4 KT hgp5 (.bool m) (.slice (some ⟨x1, 0, none⟩) k1 y1) (.bool nA) (.slice (some ⟨x2, 0, none⟩) k2 y2)
     clear cp50 cp51 cp52 cp53 gp50 gp51 gp52 gp53 zp5
     unfold put4 at n3 n4 n5 n6 KT ep5 zp6
     generalize (((w5.setCell ⟨p5, 0, none⟩ (.bool m)).setCell ⟨p5, 1, none⟩ (.slice (some ⟨x1, 0, none⟩) k1 y1)).setCell ⟨p5, 2, none⟩ (.bool nA)).setCell ⟨p5, 3, none⟩ (.slice (some ⟨x2, 0, none⟩) k2 y2) = Ws0 at ep5 zp6 n3 n4 n5 n6 KT hHeld ⊢
     obtain ⟨cp60, cp61, cp62, cp63, gp60, gp61, gp62, gp63⟩ := zp6.all8
     refine wpAnyH_ready (rs := [7]) (by kernel_rfl) (by simp) ?_
     refine AllReadyH.cons rfl (fun K hK => ?_) AllReadyH.nil
     go_simp
     refine hK.out _ _ (sS.out _ (Kept.put4 KT hgp6 _ _ _ _)) (fun hHeld => ?_)
     clear hK K
     have ep6 := zp6.put4 (.bool n) (.slice (some ⟨x3, 0, none⟩) k3 y3) (.bool nB) (.slice (some ⟨x4, 0, none⟩) k4 y4)
     have ep5 := ep5.farp dp5p6 (.bool n) (.slice (some ⟨x3, 0, none⟩) k3 y3) (.bool nB) (.slice (some ⟨x4, 0, none⟩) k4 y4)
     have n3 := Lent.rput4 n3 zp6 (.bool n) (.slice (some ⟨x3, 0, none⟩) k3 y3) (.bool nB) (.slice (some ⟨x4, 0, none⟩) k4 y4)
     have n4 := Lent.rput4 n4 zp6 (.bool n) (.slice (some ⟨x3, 0, none⟩) k3 y3) (.bool nB) (.slice (some ⟨x4, 0, none⟩) k4 y4)
     have n5 := Lent.rput4 n5 zp6 (.bool n) (.slice (some ⟨x3, 0, none⟩) k3 y3) (.bool nB) (.slice (some ⟨x4, 0, none⟩) k4 y4)
     have n6 := Lent.rput4 n6 zp6 (.bool n) (.slice (some ⟨x3, 0, none⟩) k3 y3) (.bool nB) (.slice (some ⟨x4, 0, none⟩) k4 y4)
     have KT := Kept.put4 KT hgp6 (.bool n) (.slice (some ⟨x3, 0, none⟩) k3 y3) (.bool nB) (.slice (some ⟨x4, 0, none⟩) k4 y4)
     clear cp60 cp61 cp62 cp63 gp60 gp61 gp62 gp63 zp6
     unfold put4 at n3 n4 n5 n6 KT ep5 ep6
     generalize (((Ws0.setCell ⟨p6, 0, none⟩ (.bool n)).setCell ⟨p6, 1, none⟩ (.slice (some ⟨x3, 0, none⟩) k3 y3)).setCell ⟨p6, 2, none⟩ (.bool nB)).setCell ⟨p6, 3, none⟩ (.slice (some ⟨x4, 0, none⟩) k4 y4) = Ws1 at ep5 ep6  n3 n4 n5 n6 KT hHeld ⊢
     refine wpAnyH_done (by kernel_rfl) ?_ _
     go_wp2_with fail
     go_meet
     case rel => exact ⟨p5, p6, x1, y1, x2, y2, x3, y3, x4, y4, rfl, rfl, KT, ep5, ep6, n3, n4, n5, n6⟩
    refine AllReadyH.cons rfl (fun K hK => ?_) AllReadyH.nil
    go_simp
    refine hK.out _ _ (sS.out _ (KT.alloc _)) (fun hHeld => ?_)
    clear hK K
    have zp6 := RRow.alloc w3 (.bool false) (.slice none 0 0) (.bool false) (.slice none 0 0)
    have hgp6 : w2.heap.size ≤ w3.heap.size := KT.size
    have n3 := Lent.kept n3 ((Kept.refl w3).alloc (.cells #[.bool false, .slice none 0 0, .bool false, .slice none 0 0] 26))
    have n4 := Lent.kept n4 ((Kept.refl w3).alloc (.cells #[.bool false, .slice none 0 0, .bool false, .slice none 0 0] 26))
    have KT := KT.alloc (.cells #[.bool false, .slice none 0 0, .bool false, .slice none 0 0] 26)
    obtain ⟨p6, hpp6⟩ : ∃ p, p = w3.heap.size := ⟨_, rfl⟩
    rw [← hpp6] at zp6 hgp6  ⊢
    generalize w3.alloc (.cells #[.bool false, .slice none 0 0, .bool false, .slice none 0 0] 26) = Wa5 at zp6  n3 n4 KT hHeld ⊢
    clear hpp6
    refine wpAnyH_ready (rs := [3, 4]) (by kernel_rfl) (by simp) ?_
    refine AllReadyH.cons rfl (fun K hK => ?_) ?_
    ·
     go_simp
     refine (rlent_any n nB b1 b2 k3 c3 k4 c4 bn bd _ (HG.out.2.2.1.kept (HK2.out.trans KT)) (HG.out.2.2.2.kept (HK2.out.trans KT)) HL.out.2.2.1 HL.out.2.2.2).mono ?_
     rintro e w5 ⟨hk5, x3, y3, x4, y4, rfl, n5, n6⟩
     have n5 := Lent.mono n5 (HK2.out.trans KT).size
     have n6 := Lent.mono n6 (HK2.out.trans KT).size
     refine hK.out _ _ (sS.out _ (KT.trans hk5)) (fun hHeld => ?_)
     clear hK K
     have zp6 := zp6.kept hk5
     have n3 := Lent.kept n3 hk5
     have n4 := Lent.kept n4 hk5
     have KT := KT.trans hk5
     refine wpAnyH_ready (rs := [4]) (by kernel_rfl) (by simp) ?_
     refine AllReadyH.cons rfl (fun K hK => ?_) AllReadyH.nil
     go_simp
     refine hK.out _ _ (sS.out _ (KT.alloc _)) (fun hHeld => ?_)
     clear hK K
     have zp5 := RRow.alloc w5 (.bool false) (.slice none 0 0) (.bool false) (.slice none 0 0)
     have hgp5 : w2.heap.size ≤ w5.heap.size := KT.size
     have dp5p6 : ¬ (w5.heap.size = p6) := by have := zp6.lt; omega
     have dp6p5 : ¬ (p6 = w5.heap.size) := by have := zp6.lt; omega
     have zp6 := zp6.kept ((Kept.refl w5).alloc (.cells #[.bool false, .slice none 0 0, .bool false, .slice none 0 0] 26))
     have n3 := Lent.kept n3 ((Kept.refl w5).alloc (.cells #[.bool false, .slice none 0 0, .bool false, .slice none 0 0] 26))
     have n4 := Lent.kept n4 ((Kept.refl w5).alloc (.cells #[.bool false, .slice none 0 0, .bool false, .slice none 0 0] 26))
     have n5 := Lent.kept n5 ((Kept.refl w5).alloc (.cells #[.bool false, .slice none 0 0, .bool false, .slice none 0 0] 26))
     have n6 := Lent.kept n6 ((Kept.refl w5).alloc (.cells #[.bool false, .slice none 0 0, .bool false, .slice none 0 0] 26))
     have KT := KT.alloc (.cells #[.bool false, .slice none 0 0, .bool false, .slice none 0 0] 26)
     obtain ⟨p5, hpp5⟩ : ∃ p, p = w5.heap.size := ⟨_, rfl⟩
     rw [← hpp5] at zp5 hgp5 dp5p6 dp6p5 ⊢
     generalize w5.alloc (.cells #[.bool false, .slice none 0 0, .bool false, .slice none 0 0] 26) = Wa4 at zp5 zp6 n3 n4 n5 n6 KT hHeld ⊢
     clear hpp5
     obtain ⟨cp50, cp51, cp52, cp53, gp50, gp51, gp52, gp53⟩ := zp5.all8
     refine wpAnyH_ready (rs := [6]) (by kernel_rfl) (by simp) ?_
     refine AllReadyH.cons rfl (fun K hK => ?_) AllReadyH.nil
     go_simp
     refine hK.out _ _ (sS.out _ (Kept.put4 KT hgp5 _ _ _ _)) (fun hHeld => ?_)
     clear hK K
     have ep5 := zp5.put4 (.bool m) (.slice (some ⟨x1, 0, none⟩) k1 y1) (.bool nA) (.slice (some ⟨x2, 0, none⟩) k2 y2)
     have n3 := Lent.rput4 n3 zp5 (.bool m) (.slice (some ⟨x1, 0, none⟩) k1 y1) (.bool nA) (.slice (some ⟨x2, 0, none⟩) k2 y2)
     have n4 := Lent.rput4 n4 zp5 (.bool m) (.slice (some ⟨x1, 0, none⟩) k1 y1) (.bool nA) (.slice (some ⟨x2, 0, none⟩) k2 y2)
     have n5 := Lent.rput4 n5 zp5 (.bool m) (.slice (some ⟨x1, 0, none⟩) k1 y1) (.bool nA) (.slice (some ⟨x2, 0, none⟩) k2 y2)
     have n6 := Lent.rput4 n6 zp5 (.bool m) (.slice (some ⟨x1, 0, none⟩) k1 y1) (.bool nA) (.slice (some ⟨x2, 0, none⟩) k2 y2)
     have zp6 := zp6.farp dp6p5 (.bool m) (.slice (some ⟨x1, 0, none⟩) k1 y1) (.bool nA) (.slice (some ⟨x2, 0, none⟩) k2 y2)
     have KT := Kept.put4 KT hgp5 (.bool m) (.slice (some ⟨x1, 0, none⟩) k1 y1) (.bool nA) (.slice (some ⟨x2, 0, none⟩) k2 y2)
     clear cp50 cp51 cp52 cp53 gp50 gp51 gp52 gp53 zp5
     unfold put4 at n3 n4 n5 n6 KT ep5 zp6
     generalize (((Wa4.setCell ⟨p5, 0, none⟩ (.bool m)).setCell ⟨p5, 1, none⟩ (.slice (some ⟨x1, 0, none⟩) k1 y1)).setCell ⟨p5, 2, none⟩ (.bool nA)).setCell ⟨p5, 3, none⟩ (.slice (some ⟨x2, 0, none⟩) k2 y2) = Ws0 at ep5 zp6 n3 n4 n5 n6 KT hHeld ⊢
     obtain ⟨cp60, cp61, cp62, cp63, gp60, gp61, gp62, gp63⟩ := zp6.all8
     refine wpAnyH_ready (rs := [7]) (by kernel_rfl) (by simp) ?_
     refine AllReadyH.cons rfl (fun K hK => ?_) AllReadyH.nil
     go_simp
     refine hK.out _ _ (sS.out _ (Kept.put4 KT hgp6 _ _ _ _)) (fun hHeld => ?_)
     clear hK K
     have ep6 := zp6.put4 (.bool n) (.slice (some ⟨x3, 0, none⟩) k3 y3) (.bool nB) (.slice (some ⟨x4, 0, none⟩) k4 y4)
     have ep5 := ep5.farp dp5p6 (.bool n) (.slice (some ⟨x3, 0, none⟩) k3 y3) (.bool nB) (.slice (some ⟨x4, 0, none⟩) k4 y4)
     have n3 := Lent.rput4 n3 zp6 (.bool n) (.slice (some ⟨x3, 0, none⟩) k3 y3) (.bool nB) (.slice (some ⟨x4, 0, none⟩) k4 y4)
     have n4 := Lent.rput4 n4 zp6 (.bool n) (.slice (some ⟨x3, 0, none⟩) k3 y3) (.bool nB) (.slice (some ⟨x4, 0, none⟩) k4 y4)
     have n5 := Lent.rput4 n5 zp6 (.bool n) (.slice (some ⟨x3, 0, none⟩) k3 y3) (.bool nB) (.slice (some ⟨x4, 0, none⟩) k4 y4)
     have n6 := Lent.rput4 n6 zp6 (.bool n) (.slice (some ⟨x3, 0, none⟩) k3 y3) (.bool nB) (.slice (some ⟨x4, 0, none⟩) k4 y4)
     have KT := Kept.put4 KT hgp6 (.bool n) (.slice (some ⟨x3, 0, none⟩) k3 y3) (.bool nB) (.slice (some ⟨x4, 0, none⟩) k4 y4)
     clear cp60 cp61 cp62 cp63 gp60 gp61 gp62 gp63 zp6
     unfold put4 at n3 n4 n5 n6 KT ep5 ep6
     generalize (((Ws0.setCell ⟨p6, 0, none⟩ (.bool n)).setCell ⟨p6, 1, none⟩ (.slice (some ⟨x3, 0, none⟩) k3 y3)).setCell ⟨p6, 2, none⟩ (.bool nB)).setCell ⟨p6, 3, none⟩ (.slice (some ⟨x4, 0, none⟩) k4 y4) = Ws1 at ep5 ep6  n3 n4 n5 n6 KT hHeld ⊢
     refine wpAnyH_done (by kernel_rfl) ?_ _
     go_wp2_with fail
     go_meet
     case rel => exact ⟨p5, p6, x1, y1, x2, y2, x3, y3, x4, y4, rfl, rfl, KT, ep5, ep6, n3, n4, n5, n6⟩
    refine AllReadyH.cons rfl (fun K hK => ?_) AllReadyH.nil
    go_simp
    refine hK.out _ _ (sS.out _ (KT.alloc _)) (fun hHeld => ?_)
    clear hK K
    have zp5 := RRow.alloc Wa5 (.bool false) (.slice none 0 0) (.bool false) (.slice none 0 0)
    have hgp5 : w2.heap.size ≤ Wa5.heap.size := KT.size
    have dp5p6 : ¬ (Wa5.heap.size = p6) := by have := zp6.lt; omega
    have dp6p5 : ¬ (p6 = Wa5.heap.size) := by have := zp6.lt; omega
    have zp6 := zp6.kept ((Kept.refl Wa5).alloc (.cells #[.bool false, .slice none 0 0, .bool false, .slice none 0 0] 26))
    have n3 := Lent.kept n3 ((Kept.refl Wa5).alloc (.cells #[.bool false, .slice none 0 0, .bool false, .slice none 0 0] 26))
    have n4 := Lent.kept n4 ((Kept.refl Wa5).alloc (.cells #[.bool false, .slice none 0 0, .bool false, .slice none 0 0] 26))
    have KT := KT.alloc (.cells #[.bool false, .slice none 0 0, .bool false, .slice none 0 0] 26)
    obtain ⟨p5, hpp5⟩ : ∃ p, p = Wa5.heap.size := ⟨_, rfl⟩
    rw [← hpp5] at zp5 hgp5 dp5p6 dp6p5 ⊢
    generalize Wa5.alloc (.cells #[.bool false, .slice none 0 0, .bool false, .slice none 0 0] 26) = Wa4 at zp5 zp6 n3 n4 KT hHeld ⊢
    clear hpp5
    refine wpAnyH_ready (rs := [3]) (by kernel_rfl) (by simp) ?_
    refine AllReadyH.cons rfl (fun K hK => ?_) AllReadyH.nil
    go_simp
    refine (rlent_any n nB b1 b2 k3 c3 k4 c4 bn bd _ (HG.out.2.2.1.kept (HK2.out.trans KT)) (HG.out.2.2.2.kept (HK2.out.trans KT)) HL.out.2.2.1 HL.out.2.2.2).mono ?_
    rintro e w5 ⟨hk5, x3, y3, x4, y4, rfl, n5, n6⟩
    have n5 := Lent.mono n5 (HK2.out.trans KT).size
    have n6 := Lent.mono n6 (HK2.out.trans KT).size
    refine hK.out _ _ (sS.out _ (KT.trans hk5)) (fun hHeld => ?_)
    clear hK K
    have zp6 := zp6.kept hk5
    have zp5 := zp5.kept hk5
    have n3 := Lent.kept n3 hk5
    have n4 := Lent.kept n4 hk5
    have KT := KT.trans hk5
    obtain ⟨cp50, cp51, cp52, cp53, gp50, gp51, gp52, gp53⟩ := zp5.all8
    refine wpAnyH_ready (rs := [6]) (by kernel_rfl) (by simp) ?_
    refine AllReadyH.cons rfl (fun K hK => ?_) AllReadyH.nil
    go_simp
    refine hK.out _ _ (sS.out _ (Kept.put4 KT hgp5 _ _ _ _)) (fun hHeld => ?_)
    clear hK K
    have ep5 := zp5.put4 (.bool m) (.slice (some ⟨x1, 0, none⟩) k1 y1) (.bool nA) (.slice (some ⟨x2, 0, none⟩) k2 y2)
    have n3 := Lent.rput4 n3 zp5 (.bool m) (.slice (some ⟨x1, 0, none⟩) k1 y1) (.bool nA) (.slice (some ⟨x2, 0, none⟩) k2 y2)
    have n4 := Lent.rput4 n4 zp5 (.bool m) (.slice (some ⟨x1, 0, none⟩) k1 y1) (.bool nA) (.slice (some ⟨x2, 0, none⟩) k2 y2)
    have n5 := Lent.rput4 n5 zp5 (.bool m) (.slice (some ⟨x1, 0, none⟩) k1 y1) (.bool nA) (.slice (some ⟨x2, 0, none⟩) k2 y2)
    have n6 := Lent.rput4 n6 zp5 (.bool m) (.slice (some ⟨x1, 0, none⟩) k1 y1) (.bool nA) (.slice (some ⟨x2, 0, none⟩) k2 y2)
    have zp6 := zp6.farp dp6p5 (.bool m) (.slice (some ⟨x1, 0, none⟩) k1 y1) (.bool nA) (.slice (some ⟨x2, 0, none⟩) k2 y2)
    have KT := Kept.put4 KT hgp5 (.bool m) (.slice (some ⟨x1, 0, none⟩) k1 y1) (.bool nA) (.slice (some ⟨x2, 0, none⟩) k2 y2)
    clear cp50 cp51 cp52 cp53 gp50 gp51 gp52 gp53 zp5
    unfold put4 at n3 n4 n5 n6 KT ep5 zp6
    generalize (((w5.setCell ⟨p5, 0, none⟩ (.bool m)).setCell ⟨p5, 1, none⟩ (.slice (some ⟨x1, 0, none⟩) k1 y1)).setCell ⟨p5, 2, none⟩ (.bool nA)).setCell ⟨p5, 3, none⟩ (.slice (some ⟨x2, 0, none⟩) k2 y2) = Ws0 at ep5 zp6 n3 n4 n5 n6 KT hHeld ⊢
    obtain ⟨cp60, cp61, cp62, cp63, gp60, gp61, gp62, gp63⟩ := zp6.all8
    refine wpAnyH_ready (rs := [7]) (by kernel_rfl) (by simp) ?_
    refine AllReadyH.cons rfl (fun K hK => ?_) AllReadyH.nil
    go_simp
    refine hK.out _ _ (sS.out _ (Kept.put4 KT hgp6 _ _ _ _)) (fun hHeld => ?_)
    clear hK K
    have ep6 := zp6.put4 (.bool n) (.slice (some ⟨x3, 0, none⟩) k3 y3) (.bool nB) (.slice (some ⟨x4, 0, none⟩) k4 y4)
    have ep5 := ep5.farp dp5p6 (.bool n) (.slice (some ⟨x3, 0, none⟩) k3 y3) (.bool nB) (.slice (some ⟨x4, 0, none⟩) k4 y4)
    have n3 := Lent.rput4 n3 zp6 (.bool n) (.slice (some ⟨x3, 0, none⟩) k3 y3) (.bool nB) (.slice (some ⟨x4, 0, none⟩) k4 y4)
    have n4 := Lent.rput4 n4 zp6 (.bool n) (.slice (some ⟨x3, 0, none⟩) k3 y3) (.bool nB) (.slice (some ⟨x4, 0, none⟩) k4 y4)
    have n5 := Lent.rput4 n5 zp6 (.bool n) (.slice (some ⟨x3, 0, none⟩) k3 y3) (.bool nB) (.slice (some ⟨x4, 0, none⟩) k4 y4)
    have n6 := Lent.rput4 n6 zp6 (.bool n) (.slice (some ⟨x3, 0, none⟩) k3 y3) (.bool nB) (.slice (some ⟨x4, 0, none⟩) k4 y4)
    have KT := Kept.put4 KT hgp6 (.bool n) (.slice (some ⟨x3, 0, none⟩) k3 y3) (.bool nB) (.slice (some ⟨x4, 0, none⟩) k4 y4)
    clear cp60 cp61 cp62 cp63 gp60 gp61 gp62 gp63 zp6
    unfold put4 at n3 n4 n5 n6 KT ep5 ep6
    generalize (((Ws0.setCell ⟨p6, 0, none⟩ (.bool n)).setCell ⟨p6, 1, none⟩ (.slice (some ⟨x3, 0, none⟩) k3 y3)).setCell ⟨p6, 2, none⟩ (.bool nB)).setCell ⟨p6, 3, none⟩ (.slice (some ⟨x4, 0, none⟩) k4 y4) = Ws1 at ep5 ep6  n3 n4 n5 n6 KT hHeld ⊢
    refine wpAnyH_done (by kernel_rfl) ?_ _
    go_wp2_with fail
    go_meet
    case rel => exact ⟨p5, p6, x1, y1, x2, y2, x3, y3, x4, y4, rfl, rfl, KT, ep5, ep6, n3, n4, n5, n6⟩
   refine AllReadyH.cons rfl (fun K hK => ?_) ?_
   ·
    go_simp
    refine hK.out _ _ (sS.out _ (KT.alloc _)) (fun hHeld => ?_)
    clear hK K
    have zp5 := RRow.alloc Wd (.bool false) (.slice none 0 0) (.bool false) (.slice none 0 0)
    have hgp5 : w2.heap.size ≤ Wd.heap.size := KT.size
    have KT := KT.alloc (.cells #[.bool false, .slice none 0 0, .bool false, .slice none 0 0] 26)
    obtain ⟨p5, hpp5⟩ : ∃ p, p = Wd.heap.size := ⟨_, rfl⟩
    rw [← hpp5] at zp5 hgp5  ⊢
    generalize Wd.alloc (.cells #[.bool false, .slice none 0 0, .bool false, .slice none 0 0] 26) = Wa4 at zp5   KT hHeld ⊢
    clear hpp5
    refine wpAnyH_ready (rs := [1, 5]) (by kernel_rfl) (by simp) ?_
    refine AllReadyH.cons rfl (fun K hK => ?_) ?_
    ·
     go_simp
     refine (rlent_any m nA a1 a2 k1 c1 k2 c2 an ad _ (HG.out.1.kept (HK2.out.trans KT)) (HG.out.2.1.kept (HK2.out.trans KT)) HL.out.1 HL.out.2.1).mono ?_
     rintro e w3 ⟨hk3, x1, y1, x2, y2, rfl, n3, n4⟩
     have n3 := Lent.mono n3 (HK2.out.trans KT).size
     have n4 := Lent.mono n4 (HK2.out.trans KT).size
     refine hK.out _ _ (sS.out _ (KT.trans hk3)) (fun hHeld => ?_)
     clear hK K
     have zp5 := zp5.kept hk3
     have KT := KT.trans hk3
     refine wpAnyH_ready (rs := [3, 5]) (by kernel_rfl) (by simp) ?_
     refine AllReadyH.cons rfl (fun K hK => ?_) ?_
     ·
      go_simp
      refine (rlent_any n nB b1 b2 k3 c3 k4 c4 bn bd _ (HG.out.2.2.1.kept (HK2.out.trans KT)) (HG.out.2.2.2.kept (HK2.out.trans KT)) HL.out.2.2.1 HL.out.2.2.2).mono ?_
      rintro e w5 ⟨hk5, x3, y3, x4, y4, rfl, n5, n6⟩
      have n5 := Lent.mono n5 (HK2.out.trans KT).size
      have n6 := Lent.mono n6 (HK2.out.trans KT).size
      refine hK.out _ _ (sS.out _ (KT.trans hk5)) (fun hHeld => ?_)
      clear hK K
      have zp5 := zp5.kept hk5
      have n3 := Lent.kept n3 hk5
      have n4 := Lent.kept n4 hk5
      have KT := KT.trans hk5
      refine wpAnyH_ready (rs := [5]) (by kernel_rfl) (by simp) ?_
      refine AllReadyH.cons rfl (fun K hK => ?_) AllReadyH.nil
      go_simp
      refine hK.out _ _ (sS.out _ (KT.alloc _)) (fun hHeld => ?_)
      clear hK K
      have zp6 := RRow.alloc w5 (.bool false) (.slice none 0 0) (.bool false) (.slice none 0 0)
      have hgp6 : w2.heap.size ≤ w5.heap.size := KT.size
      have dp6p5 : ¬ (w5.heap.size = p5) := by have := zp5.lt; omega
      have dp5p6 : ¬ (p5 = w5.heap.size) := by have := zp5.lt; omega
      have zp5 := zp5.kept ((Kept.refl w5).alloc (.cells #[.bool false, .slice none 0 0, .bool false, .slice none 0 0] 26))
      have n3 := Lent.kept n3 ((Kept.refl w5).alloc (.cells #[.bool false, .slice none 0 0, .bool false, .slice none 0 0] 26))
      have n4 := Lent.kept n4 ((Kept.refl w5).alloc (.cells #[.bool false, .slice none 0 0, .bool false, .slice none 0 0] 26))
      have n5 := Lent.kept n5 ((Kept.refl w5).alloc (.cells #[.bool false, .slice none 0 0, .bool false, .slice none 0 0] 26))
      have n6 := Lent.kept n6 ((Kept.refl w5).alloc (.cells #[.bool false, .slice none 0 0, .bool false, .slice none 0 0] 26))
      have KT := KT.alloc (.cells #[.bool false, .slice none 0 0, .bool false, .slice none 0 0] 26)
      obtain ⟨p6, hpp6⟩ : ∃ p, p = w5.heap.size := ⟨_, rfl⟩
      rw [← hpp6] at zp6 hgp6 dp6p5 dp5p6 ⊢
      generalize w5.alloc (.cells #[.bool false, .slice none 0 0, .bool false, .slice none 0 0] 26) = Wa5 at zp6 zp5 n3 n4 n5 n6 KT hHeld ⊢
      clear hpp6
      obtain ⟨cp50, cp51, cp52, cp53, gp50, gp51, gp52, gp53⟩ := zp5.all8
      refine wpAnyH_ready (rs := [6]) (by kernel_rfl) (by simp) ?_
      refine AllReadyH.cons rfl (fun K hK => ?_) AllReadyH.nil
      go_simp
      refine hK.out _ _ (sS.out _ (Kept.put4 KT hgp5 _ _ _ _)) (fun hHeld => ?_)
      clear hK K
      have ep5 := zp5.put4 (.bool m) (.slice (some ⟨x1, 0, none⟩) k1 y1) (.bool nA) (.slice (some ⟨x2, 0, none⟩) k2 y2)
      have n3 := Lent.rput4 n3 zp5 (.bool m) (.slice (some ⟨x1, 0, none⟩) k1 y1) (.bool nA) (.slice (some ⟨x2, 0, none⟩) k2 y2)
      have n4 := Lent.rput4 n4 zp5 (.bool m) (.slice (some ⟨x1, 0, none⟩) k1 y1) (.bool nA) (.slice (some ⟨x2, 0, none⟩) k2 y2)
      have n5 := Lent.rput4 n5 zp5 (.bool m) (.slice (some ⟨x1, 0, none⟩) k1 y1) (.bool nA) (.slice (some ⟨x2, 0, none⟩) k2 y2)
      have n6 := Lent.rput4 n6 zp5 (.bool m) (.slice (some ⟨x1, 0, none⟩) k1 y1) (.bool nA) (.slice (some ⟨x2, 0, none⟩) k2 y2)
      have zp6 := zp6.farp dp6p5 (.bool m) (.slice (some ⟨x1, 0, none⟩) k1 y1) (.bool nA) (.slice (some ⟨x2, 0, none⟩) k2 y2)
      have KT := Kept.put4 KT hgp5 (.bool m) (.slice (some ⟨x1, 0, none⟩) k1 y1) (.bool nA) (.slice (some ⟨x2, 0, none⟩) k2 y2)
      clear cp50 cp51 cp52 cp53 gp50 gp51 gp52 gp53 zp5
      unfold put4 at n3 n4 n5 n6 KT ep5 zp6
      generalize (((Wa5.setCell ⟨p5, 0, none⟩ (.bool m)).setCell ⟨p5, 1, none⟩ (.slice (some ⟨x1, 0, none⟩) k1 y1)).setCell ⟨p5, 2, none⟩ (.bool nA)).setCell ⟨p5, 3, none⟩ (.slice (some ⟨x2, 0, none⟩) k2 y2) = Ws0 at ep5 zp6 n3 n4 n5 n6 KT hHeld ⊢
      obtain ⟨cp60, cp61, cp62, cp63, gp60, gp61, gp62, gp63⟩ := zp6.all8
      refine wpAnyH_ready (rs := [7]) (by kernel_rfl) (by simp) ?_
      refine AllReadyH.cons rfl (fun K hK => ?_) AllReadyH.nil
      go_simp
      refine hK.out _ _ (sS.out _ (Kept.put4 KT hgp6 _ _ _ _)) (fun hHeld => ?_)
      clear hK K
      have ep6 := zp6.put4 (.bool n) (.slice (some ⟨x3, 0, none⟩) k3 y3) (.bool nB) (.slice (some ⟨x4, 0, none⟩) k4 y4)
      have ep5 := ep5.farp dp5p6 (.bool n) (.slice (some ⟨x3, 0, none⟩) k3 y3) (.bool nB) (.slice (some ⟨x4, 0, none⟩) k4 y4)
      have n3 := Lent.rput4 n3 zp6 (.bool n) (.slice (some ⟨x3, 0, none⟩) k3 y3) (.bool nB) (.slice (some ⟨x4, 0, none⟩) k4 y4)
      have n4 := Lent.rput4 n4 zp6 (.bool n) (.slice (some ⟨x3, 0, none⟩) k3 y3) (.bool nB) (.slice (some ⟨x4, 0, none⟩) k4 y4)
      have n5 := Lent.rput4 n5 zp6 (.bool n) (.slice (some ⟨x3, 0, none⟩) k3 y3) (.bool nB) (.slice (some ⟨x4, 0, none⟩) k4 y4)
      have n6 := Lent.rput4 n6 zp6 (.bool n) (.slice (some ⟨x3, 0, none⟩) k3 y3) (.bool nB) (.slice (some ⟨x4, 0, none⟩) k4 y4)
      have KT := Kept.put4 KT hgp6 (.bool n) (.slice (some ⟨x3, 0, none⟩) k3 y3) (.bool nB) (.slice (some ⟨x4, 0, none⟩) k4 y4)
      clear cp60 cp61 cp62 cp63 gp60 gp61 gp62 gp63 zp6
      unfold put4 at n3 n4 n5 n6 KT ep5 ep6
      generalize (((Ws0.setCell ⟨p6, 0, none⟩ (.bool n)).setCell ⟨p6, 1, none⟩ (.slice (some ⟨x3, 0, none⟩) k3 y3)).setCell ⟨p6, 2, none⟩ (.bool nB)).setCell ⟨p6, 3, none⟩ (.slice (some ⟨x4, 0, none⟩) k4 y4) = Ws1 at ep5 ep6  n3 n4 n5 n6 KT hHeld ⊢
      refine wpAnyH_done (by kernel_rfl) ?_ _
      go_wp2_with fail
      go_meet
      case rel => exact ⟨p5, p6, x1, y1, x2, y2, x3, y3, x4, y4, rfl, rfl, KT, ep5, ep6, n3, n4, n5, n6⟩
     refine AllReadyH.cons rfl (fun K hK => ?_) AllReadyH.nil
     go_simp
     refine hK.out _ _ (sS.out _ (KT.alloc _)) (fun hHeld => ?_)
     clear hK K
     have zp6 := RRow.alloc w3 (.bool false) (.slice none 0 0) (.bool false) (.slice none 0 0)
     have hgp6 : w2.heap.size ≤ w3.heap.size := KT.size
     have dp6p5 : ¬ (w3.heap.size = p5) := by have := zp5.lt; omega
     have dp5p6 : ¬ (p5 = w3.heap.size) := by have := zp5.lt; omega
     have zp5 := zp5.kept ((Kept.refl w3).alloc (.cells #[.bool false, .slice none 0 0, .bool false, .slice none 0 0] 26))
     have n3 := Lent.kept n3 ((Kept.refl w3).alloc (.cells #[.bool false, .slice none 0 0, .bool false, .slice none 0 0] 26))
     have n4 := Lent.kept n4 ((Kept.refl w3).alloc (.cells #[.bool false, .slice none 0 0, .bool false, .slice none 0 0] 26))
     have KT := KT.alloc (.cells #[.bool false, .slice none 0 0, .bool false, .slice none 0 0] 26)
     obtain ⟨p6, hpp6⟩ : ∃ p, p = w3.heap.size := ⟨_, rfl⟩
     rw [← hpp6] at zp6 hgp6 dp6p5 dp5p6 ⊢
     generalize w3.alloc (.cells #[.bool false, .slice none 0 0, .bool false, .slice none 0 0] 26) = Wa5 at zp6 zp5 n3 n4 KT hHeld ⊢
     clear hpp6
     refine wpAnyH_ready (rs := [3]) (by kernel_rfl) (by simp) ?_
     refine AllReadyH.cons rfl (fun K hK => ?_) AllReadyH.nil
     go_simp
     refine (rlent_any n nB b1 b2 k3 c3 k4 c4 bn bd _ (HG.out.2.2.1.kept (HK2.out.trans KT)) (HG.out.2.2.2.kept (HK2.out.trans KT)) HL.out.2.2.1 HL.out.2.2.2).mono ?_
     rintro e w5 ⟨hk5, x3, y3, x4, y4, rfl, n5, n6⟩
     have n5 := Lent.mono n5 (HK2.out.trans KT).size
     have n6 := Lent.mono n6 (HK2.out.trans KT).size
     refine hK.out _ _ (sS.out _ (KT.trans hk5)) (fun hHeld => ?_)
     clear hK K
     have zp5 := zp5.kept hk5
     have zp6 := zp6.kept hk5
     have n3 := Lent.kept n3 hk5
     have n4 := Lent.kept n4 hk5
     have KT := KT.trans hk5
     obtain ⟨cp50, cp51, cp52, cp53, gp50, gp51, gp52, gp53⟩ := zp5.all8
     refine wpAnyH_ready (rs := [6]) (by kernel_rfl) (by simp) ?_
     refine AllReadyH.cons rfl (fun K hK => ?_) AllReadyH.nil
     go_simp
     refine hK.out _ _ (sS.out _ (Kept.put4 KT hgp5 _ _ _ _)) (fun hHeld => ?_)
     clear hK K
     have ep5 := zp5.put4 (.bool m) (.slice (some ⟨x1, 0, none⟩) k1 y1) (.bool nA) (.slice (some ⟨x2, 0, none⟩) k2 y2)
     have n3 := Lent.rput4 n3 zp5 (.bool m) (.slice (some ⟨x1, 0, none⟩) k1 y1) (.bool nA) (.slice (some ⟨x2, 0, none⟩) k2 y2)
     have n4 := Lent.rput4 n4 zp5 (.bool m) (.slice (some ⟨x1, 0, none⟩) k1 y1) (.bool nA) (.slice (some ⟨x2, 0, none⟩) k2 y2)
     have n5 := Lent.rput4 n5 zp5 (.bool m) (.slice (some ⟨x1, 0, none⟩) k1 y1) (.bool nA) (.slice (some ⟨x2, 0, none⟩) k2 y2)
     have n6 := Lent.rput4 n6 zp5 (.bool m) (.slice (some ⟨x1, 0, none⟩) k1 y1) (.bool nA) (.slice (some ⟨x2, 0, none⟩) k2 y2)
     have zp6 := zp6.farp dp6p5 (.bool m) (.slice (some ⟨x1, 0, none⟩) k1 y1) (.bool nA) (.slice (some ⟨x2, 0, none⟩) k2 y2)
     have KT := Kept.put4 KT hgp5 (.bool m) (.slice (some ⟨x1, 0, none⟩) k1 y1) (.bool nA) (.slice (some ⟨x2, 0, none⟩) k2 y2)
     clear cp50 cp51 cp52 cp53 gp50 gp51 gp52 gp53 zp5
     unfold put4 at n3 n4 n5 n6 KT ep5 zp6
     generalize (((w5.setCell ⟨p5, 0, none⟩ (.bool m)).setCell ⟨p5, 1, none⟩ (.slice (some ⟨x1, 0, none⟩) k1 y1)).setCell ⟨p5, 2, none⟩ (.bool nA)).setCell ⟨p5, 3, none⟩ (.slice (some ⟨x2, 0, none⟩) k2 y2) = Ws0 at ep5 zp6 n3 n4 n5 n6 KT hHeld ⊢
     obtain ⟨cp60, cp61, cp62, cp63, gp60, gp61, gp62, gp63⟩ := zp6.all8
     refine wpAnyH_ready (rs := [7]) (by kernel_rfl) (by simp) ?_
     refine AllReadyH.cons rfl (fun K hK => ?_) AllReadyH.nil
     go_simp
     refine hK.out _ _ (sS.out _ (Kept.put4 KT hgp6 _ _ _ _)) (fun hHeld => ?_)
     clear hK K
     have ep6 := zp6.put4 (.bool n) (.slice (some ⟨x3, 0, none⟩) k3 y3) (.bool nB) (.slice (some ⟨x4, 0, none⟩) k4 y4)
     have ep5 := ep5.farp dp5p6 (.bool n) (.slice (some ⟨x3, 0, none⟩) k3 y3) (.bool nB) (.slice (some ⟨x4, 0, none⟩) k4 y4)
     have n3 := Lent.rput4 n3 zp6 (.bool n) (.slice (some ⟨x3, 0, none⟩) k3 y3) (.bool nB) (.slice (some ⟨x4, 0, none⟩) k4 y4)
     have n4 := Lent.rput4 n4 zp6 (.bool n) (.slice (some ⟨x3, 0, none⟩) k3 y3) (.bool nB) (.slice (some ⟨x4, 0, none⟩) k4 y4)
     have n5 := Lent.rput4 n5 zp6 (.bool n) (.slice (some ⟨x3, 0, none⟩) k3 y3) (.bool nB) (.slice (some ⟨x4, 0, none⟩) k4 y4)
     have n6 := Lent.rput4 n6 zp6 (.bool n) (.slice (some ⟨x3, 0, none⟩) k3 y3) (.bool nB) (.slice (some ⟨x4, 0, none⟩) k4 y4)
     have KT := Kept.put4 KT hgp6 (.bool n) (.slice (some ⟨x3, 0, none⟩) k3 y3) (.bool nB) (.slice (some ⟨x4, 0, none⟩) k4 y4)
     clear cp60 cp61 cp62 cp63 gp60 gp61 gp62 gp63 zp6
     unfold put4 at n3 n4 n5 n6 KT ep5 ep6
     generalize (((Ws0.setCell ⟨p6, 0, none⟩ (.bool n)).setCell ⟨p6, 1, none⟩ (.slice (some ⟨x3, 0, none⟩) k3 y3)).setCell ⟨p6, 2, none⟩ (.bool nB)).setCell ⟨p6, 3, none⟩ (.slice (some ⟨x4, 0, none⟩) k4 y4) = Ws1 at ep5 ep6  n3 n4 n5 n6 KT hHeld ⊢
     refine wpAnyH_done (by kernel_rfl) ?_ _
     go_wp2_with fail
     go_meet
     case rel => exact ⟨p5, p6, x1, y1, x2, y2, x3, y3, x4, y4, rfl, rfl, KT, ep5, ep6, n3, n4, n5, n6⟩
    refine AllReadyH.cons rfl (fun K hK => ?_) AllReadyH.nil
    go_simp
    refine hK.out _ _ (sS.out _ (KT.alloc _)) (fun hHeld => ?_)
    clear hK K
    have zp6 := RRow.alloc Wa4 (.bool false) (.slice none 0 0) (.bool false) (.slice none 0 0)
    have hgp6 : w2.heap.size ≤ Wa4.heap.size := KT.size
    have dp6p5 : ¬ (Wa4.heap.size = p5) := by have := zp5.lt; omega
    have dp5p6 : ¬ (p5 = Wa4.heap.size) := by have := zp5.lt; omega
    have zp5 := zp5.kept ((Kept.refl Wa4).alloc (.cells #[.bool false, .slice none 0 0, .bool false, .slice none 0 0] 26))
    have KT := KT.alloc (.cells #[.bool false, .slice none 0 0, .bool false, .slice none 0 0] 26)
    obtain ⟨p6, hpp6⟩ : ∃ p, p = Wa4.heap.size := ⟨_, rfl⟩
    rw [← hpp6] at zp6 hgp6 dp6p5 dp5p6 ⊢
    generalize Wa4.alloc (.cells #[.bool false, .slice none 0 0, .bool false, .slice none 0 0] 26) = Wa5 at zp6 zp5  KT hHeld ⊢
    clear hpp6
    refine wpAnyH_ready (rs := [1]) (by kernel_rfl) (by simp) ?_
    refine AllReadyH.cons rfl (fun K hK => ?_) AllReadyH.nil
    go_simp
    refine (rlent_any m nA a1 a2 k1 c1 k2 c2 an ad _ (HG.out.1.kept (HK2.out.trans KT)) (HG.out.2.1.kept (HK2.out.trans KT)) HL.out.1 HL.out.2.1).mono ?_
    rintro e w3 ⟨hk3, x1, y1, x2, y2, rfl, n3, n4⟩
    have n3 := Lent.mono n3 (HK2.out.trans KT).size
    have n4 := Lent.mono n4 (HK2.out.trans KT).size
    refine hK.out _ _ (sS.out _ (KT.trans hk3)) (fun hHeld => ?_)
    clear hK K
    have zp5 := zp5.kept hk3
    have zp6 := zp6.kept hk3
    have KT := KT.trans hk3
    refine wpAnyH_ready (rs := [3]) (by kernel_rfl) (by simp) ?_
    refine AllReadyH.cons rfl (fun K hK => ?_) AllReadyH.nil
    go_simp
    refine (rlent_any n nB b1 b2 k3 c3 k4 c4 bn bd _ (HG.out.2.2.1.kept (HK2.out.trans KT)) (HG.out.2.2.2.kept (HK2.out.trans KT)) HL.out.2.2.1 HL.out.2.2.2).mono ?_
    rintro e w5 ⟨hk5, x3, y3, x4, y4, rfl, n5, n6⟩
    have n5 := Lent.mono n5 (HK2.out.trans KT).size
    have n6 := Lent.mono n6 (HK2.out.trans KT).size
    refine hK.out _ _ (sS.out _ (KT.trans hk5)) (fun hHeld => ?_)
    clear hK K
    have zp5 := zp5.kept hk5
    have zp6 := zp6.kept hk5
    have n3 := Lent.kept n3 hk5
    have n4 := Lent.kept n4 hk5
    have KT := KT.trans hk5
    obtain ⟨cp50, cp51, cp52, cp53, gp50, gp51, gp52, gp53⟩ := zp5.all8
    refine wpAnyH_ready (rs := [6]) (by kernel_rfl) (by simp) ?_
    refine AllReadyH.cons rfl (fun K hK => ?_) AllReadyH.nil
    go_simp
    refine hK.out _ _ (sS.out _ (Kept.put4 KT hgp5 _ _ _ _)) (fun hHeld => ?_)
    clear hK K
    have ep5 := zp5.put4 (.bool m) (.slice (some ⟨x1, 0, none⟩) k1 y1) (.bool nA) (.slice (some ⟨x2, 0, none⟩) k2 y2)
    have n3 := Lent.rput4 n3 zp5 (.bool m) (.slice (some ⟨x1, 0, none⟩) k1 y1) (.bool nA) (.slice (some ⟨x2, 0, none⟩) k2 y2)
    have n4 := Lent.rput4 n4 zp5 (.bool m) (.slice (some ⟨x1, 0, none⟩) k1 y1) (.bool nA) (.slice (some ⟨x2, 0, none⟩) k2 y2)
    have n5 := Lent.rput4 n5 zp5 (.bool m) (.slice (some ⟨x1, 0, none⟩) k1 y1) (.bool nA) (.slice (some ⟨x2, 0, none⟩) k2 y2)
    have n6 := Lent.rput4 n6 zp5 (.bool m) (.slice (some ⟨x1, 0, none⟩) k1 y1) (.bool nA) (.slice (some ⟨x2, 0, none⟩) k2 y2)
    have zp6 := zp6.farp dp6p5 (.bool m) (.slice (some ⟨x1, 0, none⟩) k1 y1) (.bool nA) (.slice (some ⟨x2, 0, none⟩) k2 y2)
    have KT := Kept.put4 KT hgp5 (.bool m) (.slice (some ⟨x1, 0, none⟩) k1 y1) (.bool nA) (.slice (some ⟨x2, 0, none⟩) k2 y2)
    clear cp50 cp51 cp52 cp53 gp50 gp51 gp52 gp53 zp5
    unfold put4 at n3 n4 n5 n6 KT ep5 zp6
    generalize (((w5.setCell ⟨p5, 0, none⟩ (.bool m)).setCell ⟨p5, 1, none⟩ (.slice (some ⟨x1, 0, none⟩) k1 y1)).setCell ⟨p5, 2, none⟩ (.bool nA)).setCell ⟨p5, 3, none⟩ (.slice (some ⟨x2, 0, none⟩) k2 y2) = Ws0 at ep5 zp6 n3 n4 n5 n6 KT hHeld ⊢
    obtain ⟨cp60, cp61, cp62, cp63, gp60, gp61, gp62, gp63⟩ := zp6.all8
    refine wpAnyH_ready (rs := [7]) (by kernel_rfl) (by simp) ?_
    refine AllReadyH.cons rfl (fun K hK => ?_) AllReadyH.nil
    go_simp
    refine hK.out _ _ (sS.out _ (Kept.put4 KT hgp6 _ _ _ _)) (fun hHeld => ?_)
    clear hK K
    have ep6 := zp6.put4 (.bool n) (.slice (some ⟨x3, 0, none⟩) k3 y3) (.bool nB) (.slice (some ⟨x4, 0, none⟩) k4 y4)
    have ep5 := ep5.farp dp5p6 (.bool n) (.slice (some ⟨x3, 0, none⟩) k3 y3) (.bool nB) (.slice (some ⟨x4, 0, none⟩) k4 y4)
    have n3 := Lent.rput4 n3 zp6 (.bool n) (.slice (some ⟨x3, 0, none⟩) k3 y3) (.bool nB) (.slice (some ⟨x4, 0, none⟩) k4 y4)
    have n4 := Lent.rput4 n4 zp6 (.bool n) (.slice (some ⟨x3, 0, none⟩) k3 y3) (.bool nB) (.slice (some ⟨x4, 0, none⟩) k4 y4)
    have n5 := Lent.rput4 n5 zp6 (.bool n) (.slice (some ⟨x3, 0, none⟩) k3 y3) (.bool nB) (.slice (some ⟨x4, 0, none⟩) k4 y4)
    have n6 := Lent.rput4 n6 zp6 (.bool n) (.slice (some ⟨x3, 0, none⟩) k3 y3) (.bool nB) (.slice (some ⟨x4, 0, none⟩) k4 y4)
    have KT := Kept.put4 KT hgp6 (.bool n) (.slice (some ⟨x3, 0, none⟩) k3 y3) (.bool nB) (.slice (some ⟨x4, 0, none⟩) k4 y4)
    clear cp60 cp61 cp62 cp63 gp60 gp61 gp62 gp63 zp6
    unfold put4 at n3 n4 n5 n6 KT ep5 ep6
    generalize (((Ws0.setCell ⟨p6, 0, none⟩ (.bool n)).setCell ⟨p6, 1, none⟩ (.slice (some ⟨x3, 0, none⟩) k3 y3)).setCell ⟨p6, 2, none⟩ (.bool nB)).setCell ⟨p6, 3, none⟩ (.slice (some ⟨x4, 0, none⟩) k4 y4) = Ws1 at ep5 ep6  n3 n4 n5 n6 KT hHeld ⊢
    refine wpAnyH_done (by kernel_rfl) ?_ _
    go_wp2_with fail
    go_meet
    case rel => exact ⟨p5, p6, x1, y1, x2, y2, x3, y3, x4, y4, rfl, rfl, KT, ep5, ep6, n3, n4, n5, n6⟩
   refine AllReadyH.cons rfl (fun K hK => ?_) AllReadyH.nil
   go_simp
   refine hK.out _ _ (sS.out _ (KT.alloc _)) (fun hHeld => ?_)
   clear hK K
   have zp6 := RRow.alloc Wd (.bool false) (.slice none 0 0) (.bool false) (.slice none 0 0)
   have hgp6 : w2.heap.size ≤ Wd.heap.size := KT.size
   have KT := KT.alloc (.cells #[.bool false, .slice none 0 0, .bool false, .slice none 0 0] 26)
   obtain ⟨p6, hpp6⟩ : ∃ p, p = Wd.heap.size := ⟨_, rfl⟩
   rw [← hpp6] at zp6 hgp6  ⊢
   generalize Wd.alloc (.cells #[.bool false, .slice none 0 0, .bool false, .slice none 0 0] 26) = Wa5 at zp6   KT hHeld ⊢
   clear hpp6
   refine wpAnyH_ready (rs := [1, 4]) (by kernel_rfl) (by simp) ?_
   refine AllReadyH.cons rfl (fun K hK => ?_) ?_
   ·
    go_simp
    refine (rlent_any m nA a1 a2 k1 c1 k2 c2 an ad _ (HG.out.1.kept (HK2.out.trans KT)) (HG.out.2.1.kept (HK2.out.trans KT)) HL.out.1 HL.out.2.1).mono ?_
    rintro e w3 ⟨hk3, x1, y1, x2, y2, rfl, n3, n4⟩
    have n3 := Lent.mono n3 (HK2.out.trans KT).size
    have n4 := Lent.mono n4 (HK2.out.trans KT).size
    refine hK.out _ _ (sS.out _ (KT.trans hk3)) (fun hHeld => ?_)
    clear hK K
    have zp6 := zp6.kept hk3
    have KT := KT.trans hk3
    refine wpAnyH_ready (rs := [3, 4]) (by kernel_rfl) (by simp) ?_
    refine AllReadyH.cons rfl (fun K hK => ?_) ?_
    ·
     go_simp
     refine (rlent_any n nB b1 b2 k3 c3 k4 c4 bn bd _ (HG.out.2.2.1.kept (HK2.out.trans KT)) (HG.out.2.2.2.kept (HK2.out.trans KT)) HL.out.2.2.1 HL.out.2.2.2).mono ?_
     rintro e w5 ⟨hk5, x3, y3, x4, y4, rfl, n5, n6⟩
     have n5 := Lent.mono n5 (HK2.out.trans KT).size
     have n6 := Lent.mono n6 (HK2.out.trans KT).size
     refine hK.out _ _ (sS.out _ (KT.trans hk5)) (fun hHeld => ?_)
     clear hK K
     have zp6 := zp6.kept hk5
     have n3 := Lent.kept n3 hk5
     have n4 := Lent.kept n4 hk5
     have KT := KT.trans hk5
     refine wpAnyH_ready (rs := [4]) (by kernel_rfl) (by simp) ?_
     refine AllReadyH.cons rfl (fun K hK => ?_) AllReadyH.nil
     go_simp
     refine hK.out _ _ (sS.out _ (KT.alloc _)) (fun hHeld => ?_)
     clear hK K
     have zp5 := RRow.alloc w5 (.bool false) (.slice none 0 0) (.bool false) (.slice none 0 0)
     have hgp5 : w2.heap.size ≤ w5.heap.size := KT.size
     have dp5p6 : ¬ (w5.heap.size = p6) := by have := zp6.lt; omega
     have dp6p5 : ¬ (p6 = w5.heap.size) := by have := zp6.lt; omega
     have zp6 := zp6.kept ((Kept.refl w5).alloc (.cells #[.bool false, .slice none 0 0, .bool false, .slice none 0 0] 26))
     have n3 := Lent.kept n3 ((Kept.refl w5).alloc (.cells #[.bool false, .slice none 0 0, .bool false, .slice none 0 0] 26))
     have n4 := Lent.kept n4 ((Kept.refl w5).alloc (.cells #[.bool false, .slice none 0 0, .bool false, .slice none 0 0] 26))
     have n5 := Lent.kept n5 ((Kept.refl w5).alloc (.cells #[.bool false, .slice none 0 0, .bool false, .slice none 0 0] 26))
     have n6 := Lent.kept n6 ((Kept.refl w5).alloc (.cells #[.bool false, .slice none 0 0, .bool false, .slice none 0 0] 26))
     have KT := KT.alloc (.cells #[.bool false, .slice none 0 0, .bool false, .slice none 0 0] 26)
     obtain ⟨p5, hpp5⟩ : ∃ p, p = w5.heap.size := ⟨_, rfl⟩
     rw [← hpp5] at zp5 hgp5 dp5p6 dp6p5 ⊢
     generalize w5.alloc (.cells #[.bool false, .slice none 0 0, .bool false, .slice none 0 0] 26) = Wa4 at zp5 zp6 n3 n4 n5 n6 KT hHeld ⊢
     clear hpp5
     obtain ⟨cp50, cp51, cp52, cp53, gp50, gp51, gp52, gp53⟩ := zp5.all8
     refine wpAnyH_ready (rs := [6]) (by kernel_rfl) (by simp) ?_
     refine AllReadyH.cons rfl (fun K hK => ?_) AllReadyH.nil
     go_simp
     refine hK.out _ _ (sS.out _ (Kept.put4 KT hgp5 _ _ _ _)) (fun hHeld => ?_)
     clear hK K
     have ep5 := zp5.put4 (.bool m) (.slice (some ⟨x1, 0, none⟩) k1 y1) (.bool nA) (.slice (some ⟨x2, 0, none⟩) k2 y2)
     have n3 := Lent.rput4 n3 zp5 (.bool m) (.slice (some ⟨x1, 0, none⟩) k1 y1) (.bool nA) (.slice (some ⟨x2, 0, none⟩) k2 y2)
     have n4 := Lent.rput4 n4 zp5 (.bool m) (.slice (some ⟨x1, 0, none⟩) k1 y1) (.bool nA) (.slice (some ⟨x2, 0, none⟩) k2 y2)
     have n5 := Lent.rput4 n5 zp5 (.bool m) (.slice (some ⟨x1, 0, none⟩) k1 y1) (.bool nA) (.slice (some ⟨x2, 0, none⟩) k2 y2)
     have n6 := Lent.rput4 n6 zp5 (.bool m) (.slice (some ⟨x1, 0, none⟩) k1 y1) (.bool nA) (.slice (some ⟨x2, 0, none⟩) k2 y2)
     have zp6 := zp6.farp dp6p5 (.bool m) (.slice (some ⟨x1, 0, none⟩) k1 y1) (.bool nA) (.slice (some ⟨x2, 0, none⟩) k2 y2)
     have KT := Kept.put4 KT hgp5 (.bool m) (.slice (some ⟨x1, 0, none⟩) k1 y1) (.bool nA) (.slice (some ⟨x2, 0, none⟩) k2 y2)
     clear cp50 cp51 cp52 cp53 gp50 gp51 gp52 gp53 zp5
     unfold put4 at n3 n4 n5 n6 KT ep5 zp6
     generalize (((Wa4.setCell ⟨p5, 0, none⟩ (.bool m)).setCell ⟨p5, 1, none⟩ (.slice (some ⟨x1, 0, none⟩) k1 y1)).setCell ⟨p5, 2, none⟩ (.bool nA)).setCell ⟨p5, 3, none⟩ (.slice (some ⟨x2, 0, none⟩) k2 y2) = Ws0 at ep5 zp6 n3 n4 n5 n6 KT hHeld ⊢
     obtain ⟨cp60, cp61, cp62, cp63, gp60, gp61, gp62, gp63⟩ := zp6.all8
     refine wpAnyH_ready (rs := [7]) (by kernel_rfl) (by simp) ?_
     refine AllReadyH.cons rfl (fun K hK => ?_) AllReadyH.nil
     go_simp
     refine hK.out _ _ (sS.out _ (Kept.put4 KT hgp6 _ _ _ _)) (fun hHeld => ?_)
     clear hK K
     have ep6 := zp6.put4 (.bool n) (.slice (some ⟨x3, 0, none⟩) k3 y3) (.bool nB) (.slice (some ⟨x4, 0, none⟩) k4 y4)
     have ep5 := ep5.farp dp5p6 (.bool n) (.slice (some ⟨x3, 0, none⟩) k3 y3) (.bool nB) (.slice (some ⟨x4, 0, none⟩) k4 y4)
     have n3 := Lent.rput4 n3 zp6 (.bool n) (.slice (some ⟨x3, 0, none⟩) k3 y3) (.bool nB) (.slice (some ⟨x4, 0, none⟩) k4 y4)
     have n4 := Lent.rput4 n4 zp6 (.bool n) (.slice (some ⟨x3, 0, none⟩) k3 y3) (.bool nB) (.slice (some ⟨x4, 0, none⟩) k4 y4)
     have n5 := Lent.rput4 n5 zp6 (.bool n) (.slice (some ⟨x3, 0, none⟩) k3 y3) (.bool nB) (.slice (some ⟨x4, 0, none⟩) k4 y4)
     have n6 := Lent.rput4 n6 zp6 (.bool n) (.slice (some ⟨x3, 0, none⟩) k3 y3) (.bool nB) (.slice (some ⟨x4, 0, none⟩) k4 y4)
     have KT := Kept.put4 KT hgp6 (.bool n) (.slice (some ⟨x3, 0, none⟩) k3 y3) (.bool nB) (.slice (some ⟨x4, 0, none⟩) k4 y4)
     clear cp60 cp61 cp62 cp63 gp60 gp61 gp62 gp63 zp6
     unfold put4 at n3 n4 n5 n6 KT ep5 ep6
     generalize (((Ws0.setCell ⟨p6, 0, none⟩ (.bool n)).setCell ⟨p6, 1, none⟩ (.slice (some ⟨x3, 0, none⟩) k3 y3)).setCell ⟨p6, 2, none⟩ (.bool nB)).setCell ⟨p6, 3, none⟩ (.slice (some ⟨x4, 0, none⟩) k4 y4) = Ws1 at ep5 ep6  n3 n4 n5 n6 KT hHeld ⊢
     refine wpAnyH_done (by kernel_rfl) ?_ _
     go_wp2_with fail
     go_meet
     case rel => exact ⟨p5, p6, x1, y1, x2, y2, x3, y3, x4, y4, rfl, rfl, KT, ep5, ep6, n3, n4, n5, n6⟩
    refine AllReadyH.cons rfl (fun K hK => ?_) AllReadyH.nil
    go_simp
    refine hK.out _ _ (sS.out _ (KT.alloc _)) (fun hHeld => ?_)
    clear hK K
    have zp5 := RRow.alloc w3 (.bool false) (.slice none 0 0) (.bool false) (.slice none 0 0)
    have hgp5 : w2.heap.size ≤ w3.heap.size := KT.size
    have dp5p6 : ¬ (w3.heap.size = p6) := by have := zp6.lt; omega
    have dp6p5 : ¬ (p6 = w3.heap.size) := by have := zp6.lt; omega
    have zp6 := zp6.kept ((Kept.refl w3).alloc (.cells #[.bool false, .slice none 0 0, .bool false, .slice none 0 0] 26))
    have n3 := Lent.kept n3 ((Kept.refl w3).alloc (.cells #[.bool false, .slice none 0 0, .bool false, .slice none 0 0] 26))
    have n4 := Lent.kept n4 ((Kept.refl w3).alloc (.cells #[.bool false, .slice none 0 0, .bool false, .slice none 0 0] 26))
    have KT := KT.alloc (.cells #[.bool false, .slice none 0 0, .bool false, .slice none 0 0] 26)
    obtain ⟨p5, hpp5⟩ : ∃ p, p = w3.heap.size := ⟨_, rfl⟩
    rw [← hpp5] at zp5 hgp5 dp5p6 dp6p5 ⊢
    generalize w3.alloc (.cells #[.bool false, .slice none 0 0, .bool false, .slice none 0 0] 26) = Wa4 at zp5 zp6 n3 n4 KT hHeld ⊢
    clear hpp5
    refine wpAnyH_ready (rs := [3]) (by kernel_rfl) (by simp) ?_
    refine AllReadyH.cons rfl (fun K hK => ?_) AllReadyH.nil
    go_simp
    refine (rlent_any n nB b1 b2 k3 c3 k4 c4 bn bd _ (HG.out.2.2.1.kept (HK2.out.trans KT)) (HG.out.2.2.2.kept (HK2.out.trans KT)) HL.out.2.2.1 HL.out.2.2.2).mono ?_
    rintro e w5 ⟨hk5, x3, y3, x4, y4, rfl, n5, n6⟩
    have n5 := Lent.mono n5 (HK2.out.trans KT).size
    have n6 := Lent.mono n6 (HK2.out.trans KT).size
    refine hK.out _ _ (sS.out _ (KT.trans hk5)) (fun hHeld => ?_)
    clear hK K
    have zp6 := zp6.kept hk5
    have zp5 := zp5.kept hk5
    have n3 := Lent.kept n3 hk5
    have n4 := Lent.kept n4 hk5
    have KT := KT.trans hk5
    obtain ⟨cp50, cp51, cp52, cp53, gp50, gp51, gp52, gp53⟩ := zp5.all8
    refine wpAnyH_ready (rs := [6]) (by kernel_rfl) (by simp) ?_
    refine AllReadyH.cons rfl (fun K hK => ?_) AllReadyH.nil
    go_simp
    refine hK.out _ _ (sS.out _ (Kept.put4 KT hgp5 _ _ _ _)) (fun hHeld => ?_)
    clear hK K
    have ep5 := zp5.put4 (.bool m) (.slice (some ⟨x1, 0, none⟩) k1 y1) (.bool nA) (.slice (some ⟨x2, 0, none⟩) k2 y2)
    have n3 := Lent.rput4 n3 zp5 (.bool m) (.slice (some ⟨x1, 0, none⟩) k1 y1) (.bool nA) (.slice (some ⟨x2, 0, none⟩) k2 y2)
    have n4 := Lent.rput4 n4 zp5 (.bool m) (.slice (some ⟨x1, 0, none⟩) k1 y1) (.bool nA) (.slice (some ⟨x2, 0, none⟩) k2 y2)
    have n5 := Lent.rput4 n5 zp5 (.bool m) (.slice (some ⟨x1, 0, none⟩) k1 y1) (.bool nA) (.slice (some ⟨x2, 0, none⟩) k2 y2)
    have n6 := Lent.rput4 n6 zp5 (.bool m) (.slice (some ⟨x1, 0, none⟩) k1 y1) (.bool nA) (.slice (some ⟨x2, 0, none⟩) k2 y2)
    have zp6 := zp6.farp dp6p5 (.bool m) (.slice (some ⟨x1, 0, none⟩) k1 y1) (.bool nA) (.slice (some ⟨x2, 0, none⟩) k2 y2)
    have KT := Kept.put4 KT hgp5 (.bool m) (.slice (some ⟨x1, 0, none⟩) k1 y1) (.bool nA) (.slice (some ⟨x2, 0, none⟩) k2 y2)
    clear cp50 cp51 cp52 cp53 gp50 gp51 gp52 gp53 zp5
    unfold put4 at n3 n4 n5 n6 KT ep5 zp6
    generalize (((w5.setCell ⟨p5, 0, none⟩ (.bool m)).setCell ⟨p5, 1, none⟩ (.slice (some ⟨x1, 0, none⟩) k1 y1)).setCell ⟨p5, 2, none⟩ (.bool nA)).setCell ⟨p5, 3, none⟩ (.slice (some ⟨x2, 0, none⟩) k2 y2) = Ws0 at ep5 zp6 n3 n4 n5 n6 KT hHeld ⊢
    obtain ⟨cp60, cp61, cp62, cp63, gp60, gp61, gp62, gp63⟩ := zp6.all8
    refine wpAnyH_ready (rs := [7]) (by kernel_rfl) (by simp) ?_
    refine AllReadyH.cons rfl (fun K hK => ?_) AllReadyH.nil
    go_simp
    refine hK.out _ _ (sS.out _ (Kept.put4 KT hgp6 _ _ _ _)) (fun hHeld => ?_)
    clear hK K
    have ep6 := zp6.put4 (.bool n) (.slice (some ⟨x3, 0, none⟩) k3 y3) (.bool nB) (.slice (some ⟨x4, 0, none⟩) k4 y4)
    have ep5 := ep5.farp dp5p6 (.bool n) (.slice (some ⟨x3, 0, none⟩) k3 y3) (.bool nB) (.slice (some ⟨x4, 0, none⟩) k4 y4)
    have n3 := Lent.rput4 n3 zp6 (.bool n) (.slice (some ⟨x3, 0, none⟩) k3 y3) (.bool nB) (.slice (some ⟨x4, 0, none⟩) k4 y4)
    have n4 := Lent.rput4 n4 zp6 (.bool n) (.slice (some ⟨x3, 0, none⟩) k3 y3) (.bool nB) (.slice (some ⟨x4, 0, none⟩) k4 y4)
    have n5 := Lent.rput4 n5 zp6 (.bool n) (.slice (some ⟨x3, 0, none⟩) k3 y3) (.bool nB) (.slice (some ⟨x4, 0, none⟩) k4 y4)
    have n6 := Lent.rput4 n6 zp6 (.bool n) (.slice (some ⟨x3, 0, none⟩) k3 y3) (.bool nB) (.slice (some ⟨x4, 0, none⟩) k4 y4)
    have KT := Kept.put4 KT hgp6 (.bool n) (.slice (some ⟨x3, 0, none⟩) k3 y3) (.bool nB) (.slice (some ⟨x4, 0, none⟩) k4 y4)
    clear cp60 cp61 cp62 cp63 gp60 gp61 gp62 gp63 zp6
    unfold put4 at n3 n4 n5 n6 KT ep5 ep6
    generalize (((Ws0.setCell ⟨p6, 0, none⟩ (.bool n)).setCell ⟨p6, 1, none⟩ (.slice (some ⟨x3, 0, none⟩) k3 y3)).setCell ⟨p6, 2, none⟩ (.bool nB)).setCell ⟨p6, 3, none⟩ (.slice (some ⟨x4, 0, none⟩) k4 y4) = Ws1 at ep5 ep6  n3 n4 n5 n6 KT hHeld ⊢
    refine wpAnyH_done (by kernel_rfl) ?_ _
    go_wp2_with fail
    go_meet
    case rel => exact ⟨p5, p6, x1, y1, x2, y2, x3, y3, x4, y4, rfl, rfl, KT, ep5, ep6, n3, n4, n5, n6⟩
   refine AllReadyH.cons rfl (fun K hK => ?_) AllReadyH.nil
   go_simp
   refine hK.out _ _ (sS.out _ (KT.alloc _)) (fun hHeld => ?_)
   clear hK K
   have zp5 := RRow.alloc Wa5 (.bool false) (.slice none 0 0) (.bool false) (.slice none 0 0)
   have hgp5 : w2.heap.size ≤ Wa5.heap.size := KT.size
   have dp5p6 : ¬ (Wa5.heap.size = p6) := by have := zp6.lt; omega
   have dp6p5 : ¬ (p6 = Wa5.heap.size) := by have := zp6.lt; omega
   have zp6 := zp6.kept ((Kept.refl Wa5).alloc (.cells #[.bool false, .slice none 0 0, .bool false, .slice none 0 0] 26))
   have KT := KT.alloc (.cells #[.bool false, .slice none 0 0, .bool false, .slice none 0 0] 26)
   obtain ⟨p5, hpp5⟩ : ∃ p, p = Wa5.heap.size := ⟨_, rfl⟩
   rw [← hpp5] at zp5 hgp5 dp5p6 dp6p5 ⊢
   generalize Wa5.alloc (.cells #[.bool false, .slice none 0 0, .bool false, .slice none 0 0] 26) = Wa4 at zp5 zp6  KT hHeld ⊢
   clear hpp5
   refine wpAnyH_ready (rs := [1]) (by kernel_rfl) (by simp) ?_
   refine AllReadyH.cons rfl (fun K hK => ?_) AllReadyH.nil
   go_simp
   refine (rlent_any m nA a1 a2 k1 c1 k2 c2 an ad _ (HG.out.1.kept (HK2.out.trans KT)) (HG.out.2.1.kept (HK2.out.trans KT)) HL.out.1 HL.out.2.1).mono ?_
   rintro e w3 ⟨hk3, x1, y1, x2, y2, rfl, n3, n4⟩
   have n3 := Lent.mono n3 (HK2.out.trans KT).size
   have n4 := Lent.mono n4 (HK2.out.trans KT).size
   refine hK.out _ _ (sS.out _ (KT.trans hk3)) (fun hHeld => ?_)
   clear hK K
   have zp6 := zp6.kept hk3
   have zp5 := zp5.kept hk3
   have KT := KT.trans hk3
   refine wpAnyH_ready (rs := [3]) (by kernel_rfl) (by simp) ?_
   refine AllReadyH.cons rfl (fun K hK => ?_) AllReadyH.nil
   go_simp
   refine (rlent_any n nB b1 b2 k3 c3 k4 c4 bn bd _ (HG.out.2.2.1.kept (HK2.out.trans KT)) (HG.out.2.2.2.kept (HK2.out.trans KT)) HL.out.2.2.1 HL.out.2.2.2).mono ?_
   rintro e w5 ⟨hk5, x3, y3, x4, y4, rfl, n5, n6⟩
   have n5 := Lent.mono n5 (HK2.out.trans KT).size
   have n6 := Lent.mono n6 (HK2.out.trans KT).size
   refine hK.out _ _ (sS.out _ (KT.trans hk5)) (fun hHeld => ?_)
   clear hK K
   have zp6 := zp6.kept hk5
   have zp5 := zp5.kept hk5
   have n3 := Lent.kept n3 hk5
   have n4 := Lent.kept n4 hk5
   have KT := KT.trans hk5
   obtain ⟨cp50, cp51, cp52, cp53, gp50, gp51, gp52, gp53⟩ := zp5.all8
   refine wpAnyH_ready (rs := [6]) (by kernel_rfl) (by simp) ?_
   refine AllReadyH.cons rfl (fun K hK => ?_) AllReadyH.nil
   go_simp
   refine hK.out _ _ (sS.out _ (Kept.put4 KT hgp5 _ _ _ _)) (fun hHeld => ?_)
   clear hK K
   have ep5 := zp5.put4 (.bool m) (.slice (some ⟨x1, 0, none⟩) k1 y1) (.bool nA) (.slice (some ⟨x2, 0, none⟩) k2 y2)
   have n3 := Lent.rput4 n3 zp5 (.bool m) (.slice (some ⟨x1, 0, none⟩) k1 y1) (.bool nA) (.slice (some ⟨x2, 0, none⟩) k2 y2)
   have n4 := Lent.rput4 n4 zp5 (.bool m) (.slice (some ⟨x1, 0, none⟩) k1 y1) (.bool nA) (.slice (some ⟨x2, 0, none⟩) k2 y2)
   have n5 := Lent.rput4 n5 zp5 (.bool m) (.slice (some ⟨x1, 0, none⟩) k1 y1) (.bool nA) (.slice (some ⟨x2, 0, none⟩) k2 y2)
   have n6 := Lent.rput4 n6 zp5 (.bool m) (.slice (some ⟨x1, 0, none⟩) k1 y1) (.bool nA) (.slice (some ⟨x2, 0, none⟩) k2 y2)
   have zp6 := zp6.farp dp6p5 (.bool m) (.slice (some ⟨x1, 0, none⟩) k1 y1) (.bool nA) (.slice (some ⟨x2, 0, none⟩) k2 y2)
   have KT := Kept.put4 KT hgp5 (.bool m) (.slice (some ⟨x1, 0, none⟩) k1 y1) (.bool nA) (.slice (some ⟨x2, 0, none⟩) k2 y2)
   clear cp50 cp51 cp52 cp53 gp50 gp51 gp52 gp53 zp5
   unfold put4 at n3 n4 n5 n6 KT ep5 zp6
   generalize (((w5.setCell ⟨p5, 0, none⟩ (.bool m)).setCell ⟨p5, 1, none⟩ (.slice (some ⟨x1, 0, none⟩) k1 y1)).setCell ⟨p5, 2, none⟩ (.bool nA)).setCell ⟨p5, 3, none⟩ (.slice (some ⟨x2, 0, none⟩) k2 y2) = Ws0 at ep5 zp6 n3 n4 n5 n6 KT hHeld ⊢
   obtain ⟨cp60, cp61, cp62, cp63, gp60, gp61, gp62, gp63⟩ := zp6.all8
   refine wpAnyH_ready (rs := [7]) (by kernel_rfl) (by simp) ?_
   refine AllReadyH.cons rfl (fun K hK => ?_) AllReadyH.nil
   go_simp
   refine hK.out _ _ (sS.out _ (Kept.put4 KT hgp6 _ _ _ _)) (fun hHeld => ?_)
   clear hK K
   have ep6 := zp6.put4 (.bool n) (.slice (some ⟨x3, 0, none⟩) k3 y3) (.bool nB) (.slice (some ⟨x4, 0, none⟩) k4 y4)
   have ep5 := ep5.farp dp5p6 (.bool n) (.slice (some ⟨x3, 0, none⟩) k3 y3) (.bool nB) (.slice (some ⟨x4, 0, none⟩) k4 y4)
   have n3 := Lent.rput4 n3 zp6 (.bool n) (.slice (some ⟨x3, 0, none⟩) k3 y3) (.bool nB) (.slice (some ⟨x4, 0, none⟩) k4 y4)
   have n4 := Lent.rput4 n4 zp6 (.bool n) (.slice (some ⟨x3, 0, none⟩) k3 y3) (.bool nB) (.slice (some ⟨x4, 0, none⟩) k4 y4)
   have n5 := Lent.rput4 n5 zp6 (.bool n) (.slice (some ⟨x3, 0, none⟩) k3 y3) (.bool nB) (.slice (some ⟨x4, 0, none⟩) k4 y4)
   have n6 := Lent.rput4 n6 zp6 (.bool n) (.slice (some ⟨x3, 0, none⟩) k3 y3) (.bool nB) (.slice (some ⟨x4, 0, none⟩) k4 y4)
   have KT := Kept.put4 KT hgp6 (.bool n) (.slice (some ⟨x3, 0, none⟩) k3 y3) (.bool nB) (.slice (some ⟨x4, 0, none⟩) k4 y4)
   clear cp60 cp61 cp62 cp63 gp60 gp61 gp62 gp63 zp6
   unfold put4 at n3 n4 n5 n6 KT ep5 ep6
   generalize (((Ws0.setCell ⟨p6, 0, none⟩ (.bool n)).setCell ⟨p6, 1, none⟩ (.slice (some ⟨x3, 0, none⟩) k3 y3)).setCell ⟨p6, 2, none⟩ (.bool nB)).setCell ⟨p6, 3, none⟩ (.slice (some ⟨x4, 0, none⟩) k4 y4) = Ws1 at ep5 ep6  n3 n4 n5 n6 KT hHeld ⊢
   refine wpAnyH_done (by kernel_rfl) ?_ _
   go_wp2_with fail
   go_meet
   case rel => exact ⟨p5, p6, x1, y1, x2, y2, x3, y3, x4, y4, rfl, rfl, KT, ep5, ep6, n3, n4, n5, n6⟩
  case rest =>
   obtain ⟨p5, p6, x1, y1, x2, y2, x3, y3, x4, y4, rfl, rfl, HCC⟩ := hcut
   obtain ⟨hkc, hx, hy, n3, n4, n5, n6⟩ := HCC.out
   have Ha := hid' (Ha.out.kept hkc)
   have Hb := hid' (Hb.out.kept hkc)
   have Hx := hid' hx
   have Hy := hid' hy
   have HX := hid' (And.intro n3 (And.intro n4 (And.intro n5 n6)))
   have HK := hid' (HK2.out.trans hkc)
   have HOLD0 : Hid ((p2 < wc.heap.size ∧ p3 < wc.heap.size ∧ p5 < wc.heap.size ∧ p6 < wc.heap.size) ∧ x1 < wc.heap.size ∧ x2 < wc.heap.size ∧ x3 < wc.heap.size ∧ x4 < wc.heap.size) := ⟨⟨Ha.out.lt, Hb.out.lt, hx.lt, hy.lt⟩, n3.at.2.1, n4.at.2.1, n5.at.2.1, n6.at.2.1⟩
   have HWC : Hid (wc.heap.size ≤ wc.heap.size) := Nat.le_refl _
   have HWW := hid' HK.out.size
   clear HCC hkc hx hy n3 n4 n5 n6
   have f0 := Hx.out.c0
   have f1 := Hx.out.c1
   have f2 := Hx.out.c2
   have f3 := Hx.out.c3
   have f4 := Hy.out.c0
   have f5 := Hy.out.c1
   have f6 := Hy.out.c2
   have f7 := Hy.out.c3
   go_wp2_with fail
   refine (Add_all m nA n nB (some ⟨x1, 0, none⟩) (some ⟨x2, 0, none⟩) (some ⟨x3, 0, none⟩) (some ⟨x4, 0, none⟩) k1 y1 k2 y2 k3 y3 k4 y4 an ad bn bd _ (HX.out.1.sl.kept (Kept.refl wc)) (HX.out.2.1.sl.kept (Kept.refl wc)) (HX.out.2.2.1.sl.kept (Kept.refl wc)) (HX.out.2.2.2.sl.kept (Kept.refl wc)) HL'.out.1 HL'.out.2.1 HL'.out.2.2.1 HL'.out.2.2.2).mono ?_
   rintro e w6 ⟨hk, hM⟩
   clear f0 f1 f2 f3 f4 f5 f6 f7
   have Ha := hid' (Ha.out.kept ((Kept.refl wc).trans hk))
   have Hb := hid' (Hb.out.kept ((Kept.refl wc).trans hk))
   have Hx := hid' (Hx.out.kept ((Kept.refl wc).trans hk))
   have Hy := hid' (Hy.out.kept ((Kept.refl wc).trans hk))
   have HK := hid' (HK.out.trans ((Kept.refl wc).trans hk))
   have HWC := hid' (Nat.le_trans HWC.out ((Kept.refl wc).trans hk).size)
   have HX := hid' (And.intro (HX.out.1.kept ((Kept.refl wc).trans hk)) (And.intro (HX.out.2.1.kept ((Kept.refl wc).trans hk)) (And.intro (HX.out.2.2.1.kept ((Kept.refl wc).trans hk)) (HX.out.2.2.2.kept ((Kept.refl wc).trans hk)))))
   obtain ⟨sA, oA, kA, cA, tA, pA, gA, hA, eA, lA, mA, rfl, hsA, htA, hlA, hmA, hqA⟩ := OpIs.res hM
   have HA := hid' (And.intro hsA (And.intro htA (And.intro hlA (And.intro hmA hqA))))
   clear hM hsA htA hlA hmA hqA
   clear hk
   have HBA : Hid ((∀ b, oA = some ⟨b, 0, none⟩ → wc.heap.size ≤ b ∧ b < w6.heap.size) ∧ (∀ b, pA = some ⟨b, 0, none⟩ → wc.heap.size ≤ b ∧ b < w6.heap.size)) := ⟨new_blk HA.out.1, new_blk HA.out.2.1⟩
   have HS6 : Hid (w6.heap.size ≤ w6.heap.size) := Nat.le_refl _
   have HW6 : Hid (wc.heap.size ≤ w6.heap.size) := HWC.out
   clear HWC
   have HOLD : Hid ((p2 < wc.heap.size ∧ p3 < wc.heap.size ∧ p5 < wc.heap.size ∧ p6 < wc.heap.size) ∧ x1 < wc.heap.size ∧ x2 < wc.heap.size ∧ x3 < wc.heap.size ∧ x4 < wc.heap.size) := HOLD0
   have f8 := fun x0 => (Hx.out.kept ((Kept.refl w6).alloc x0)).c0
   have f9 := fun x0 => (Hx.out.kept ((Kept.refl w6).alloc x0)).c1
   have f10 := fun x0 => (Hx.out.kept ((Kept.refl w6).alloc x0)).c2
   have f11 := fun x0 => (Hx.out.kept ((Kept.refl w6).alloc x0)).c3
   have f12 := fun x0 => (Hy.out.kept ((Kept.refl w6).alloc x0)).c0
   have f13 := fun x0 => (Hy.out.kept ((Kept.refl w6).alloc x0)).c1
   have f14 := fun x0 => (Hy.out.kept ((Kept.refl w6).alloc x0)).c2
   have f15 := fun x0 => (Hy.out.kept ((Kept.refl w6).alloc x0)).c3
   go_wp2_with fail
   refine (Sub_all m nA n nB (some ⟨x1, 0, none⟩) (some ⟨x2, 0, none⟩) (some ⟨x3, 0, none⟩) (some ⟨x4, 0, none⟩) k1 y1 k2 y2 k3 y3 k4 y4 an ad bn bd _ (HX.out.1.sl.kept ((Kept.refl w6).alloc _)) (HX.out.2.1.sl.kept ((Kept.refl w6).alloc _)) (HX.out.2.2.1.sl.kept ((Kept.refl w6).alloc _)) (HX.out.2.2.2.sl.kept ((Kept.refl w6).alloc _)) HL'.out.1 HL'.out.2.1 HL'.out.2.2.1 HL'.out.2.2.2).mono ?_
   rintro e w7 ⟨hk, hM⟩
   clear f8 f9 f10 f11 f12 f13 f14 f15
   have Hra' := (RRow.alloc w6 (.bool sA) (.slice oA kA cA) (.bool tA) (.slice pA gA hA)).kept ((Kept.refl _).trans hk)
   have Hra := hid' Hra'
   clear Hra'
   have Ha := hid' (Ha.out.kept (((Kept.refl w6).alloc _).trans hk))
   have Hb := hid' (Hb.out.kept (((Kept.refl w6).alloc _).trans hk))
   have Hx := hid' (Hx.out.kept (((Kept.refl w6).alloc _).trans hk))
   have Hy := hid' (Hy.out.kept (((Kept.refl w6).alloc _).trans hk))
   have HK := hid' (HK.out.trans (((Kept.refl w6).alloc _).trans hk))
   have HX := hid' (And.intro (HX.out.1.kept (((Kept.refl w6).alloc _).trans hk)) (And.intro (HX.out.2.1.kept (((Kept.refl w6).alloc _).trans hk)) (And.intro (HX.out.2.2.1.kept (((Kept.refl w6).alloc _).trans hk)) (HX.out.2.2.2.kept (((Kept.refl w6).alloc _).trans hk)))))
   have HA := hid' (And.intro (HA.out.1.kept (((Kept.refl w6).alloc _).trans hk)) (And.intro (HA.out.2.1.kept (((Kept.refl w6).alloc _).trans hk)) HA.out.2.2))
   have HS6 := hid' (Nat.le_trans HS6.out (((Kept.refl w6).alloc _).trans hk).size)
   obtain ⟨sB, oB, kB, cB, tB, pB, gB, hB, eB, lB, mB, rfl, hsB, htB, hlB, hmB, hqB⟩ := OpIs.res hM
   have HB := hid' (And.intro hsB (And.intro htB (And.intro hlB (And.intro hmB hqB))))
   clear hM hsB htB hlB hmB hqB
   clear hk
   have f16 := fun x0 => (Hx.out.kept ((Kept.refl w7).alloc x0)).c0
   have f17 := fun x0 => (Hx.out.kept ((Kept.refl w7).alloc x0)).c1
   have f18 := fun x0 => (Hx.out.kept ((Kept.refl w7).alloc x0)).c2
   have f19 := fun x0 => (Hx.out.kept ((Kept.refl w7).alloc x0)).c3
   have f20 := fun x0 => (Hy.out.kept ((Kept.refl w7).alloc x0)).c0
   have f21 := fun x0 => (Hy.out.kept ((Kept.refl w7).alloc x0)).c1
   have f22 := fun x0 => (Hy.out.kept ((Kept.refl w7).alloc x0)).c2
   have f23 := fun x0 => (Hy.out.kept ((Kept.refl w7).alloc x0)).c3
   go_wp2_with fail
   refine (Mul_all m nA n nB (some ⟨x1, 0, none⟩) (some ⟨x2, 0, none⟩) (some ⟨x3, 0, none⟩) (some ⟨x4, 0, none⟩) k1 y1 k2 y2 k3 y3 k4 y4 an ad bn bd _ (HX.out.1.sl.kept ((Kept.refl w7).alloc _)) (HX.out.2.1.sl.kept ((Kept.refl w7).alloc _)) (HX.out.2.2.1.sl.kept ((Kept.refl w7).alloc _)) (HX.out.2.2.2.sl.kept ((Kept.refl w7).alloc _)) HL'.out.1 HL'.out.2.1 HL'.out.2.2.1 HL'.out.2.2.2).mono ?_
   rintro e w8 ⟨hk, hM⟩
   clear f16 f17 f18 f19 f20 f21 f22 f23
   have Hrb' := (RRow.alloc w7 (.bool sB) (.slice oB kB cB) (.bool tB) (.slice pB gB hB)).kept ((Kept.refl _).trans hk)
   have Hrb := hid' Hrb'
   clear Hrb'
   have Ha := hid' (Ha.out.kept (((Kept.refl w7).alloc _).trans hk))
   have Hb := hid' (Hb.out.kept (((Kept.refl w7).alloc _).trans hk))
   have Hx := hid' (Hx.out.kept (((Kept.refl w7).alloc _).trans hk))
   have Hy := hid' (Hy.out.kept (((Kept.refl w7).alloc _).trans hk))
   have Hra := hid' (Hra.out.kept (((Kept.refl w7).alloc _).trans hk))
   have HK := hid' (HK.out.trans (((Kept.refl w7).alloc _).trans hk))
   have HX := hid' (And.intro (HX.out.1.kept (((Kept.refl w7).alloc _).trans hk)) (And.intro (HX.out.2.1.kept (((Kept.refl w7).alloc _).trans hk)) (And.intro (HX.out.2.2.1.kept (((Kept.refl w7).alloc _).trans hk)) (HX.out.2.2.2.kept (((Kept.refl w7).alloc _).trans hk)))))
   have HA := hid' (And.intro (HA.out.1.kept (((Kept.refl w7).alloc _).trans hk)) (And.intro (HA.out.2.1.kept (((Kept.refl w7).alloc _).trans hk)) HA.out.2.2))
   have HS6 := hid' (Nat.le_trans HS6.out (((Kept.refl w7).alloc _).trans hk).size)
   have HB := hid' (And.intro (HB.out.1.kept (((Kept.refl w7).alloc _).trans hk)) (And.intro (HB.out.2.1.kept (((Kept.refl w7).alloc _).trans hk)) HB.out.2.2))
   obtain ⟨sC, oC, kC, cC, tC, pC, gC, hC, eC, lC, mC, rfl, hsC, htC, hlC, hmC, hqC⟩ := OpIs.res hM
   have HC := hid' (And.intro hsC (And.intro htC (And.intro hlC (And.intro hmC hqC))))
   clear hM hsC htC hlC hmC hqC
   clear hk
   have f24 := fun x0 => (Hx.out.kept ((Kept.refl w8).alloc x0)).c0
   have f25 := fun x0 => (Hx.out.kept ((Kept.refl w8).alloc x0)).c1
   have f26 := fun x0 => (Hx.out.kept ((Kept.refl w8).alloc x0)).c2
   have f27 := fun x0 => (Hx.out.kept ((Kept.refl w8).alloc x0)).c3
   have f28 := fun x0 => (Hy.out.kept ((Kept.refl w8).alloc x0)).c0
   have f29 := fun x0 => (Hy.out.kept ((Kept.refl w8).alloc x0)).c1
   have f30 := fun x0 => (Hy.out.kept ((Kept.refl w8).alloc x0)).c2
   have f31 := fun x0 => (Hy.out.kept ((Kept.refl w8).alloc x0)).c3
   go_wp2_with fail
   refine (Div_all m nA n nB (some ⟨x1, 0, none⟩) (some ⟨x2, 0, none⟩) (some ⟨x3, 0, none⟩) (some ⟨x4, 0, none⟩) k1 y1 k2 y2 k3 y3 k4 y4 an ad bn bd _ (HX.out.1.sl.kept ((Kept.refl w8).alloc _)) (HX.out.2.1.sl.kept ((Kept.refl w8).alloc _)) (HX.out.2.2.1.sl.kept ((Kept.refl w8).alloc _)) (HX.out.2.2.2.sl.kept ((Kept.refl w8).alloc _)) HL'.out.1 HL'.out.2.1 HL'.out.2.2.1 HL'.out.2.2.2).mono ?_
   rintro e w9 ⟨hk, hM⟩
   clear f24 f25 f26 f27 f28 f29 f30 f31
   have Hrc' := (RRow.alloc w8 (.bool sC) (.slice oC kC cC) (.bool tC) (.slice pC gC hC)).kept ((Kept.refl _).trans hk)
   have Hrc := hid' Hrc'
   clear Hrc'
   have Ha := hid' (Ha.out.kept (((Kept.refl w8).alloc _).trans hk))
   have Hb := hid' (Hb.out.kept (((Kept.refl w8).alloc _).trans hk))
   have Hx := hid' (Hx.out.kept (((Kept.refl w8).alloc _).trans hk))
   have Hy := hid' (Hy.out.kept (((Kept.refl w8).alloc _).trans hk))
   have Hra := hid' (Hra.out.kept (((Kept.refl w8).alloc _).trans hk))
   have Hrb := hid' (Hrb.out.kept (((Kept.refl w8).alloc _).trans hk))
   have HK := hid' (HK.out.trans (((Kept.refl w8).alloc _).trans hk))
   have HX := hid' (And.intro (HX.out.1.kept (((Kept.refl w8).alloc _).trans hk)) (And.intro (HX.out.2.1.kept (((Kept.refl w8).alloc _).trans hk)) (And.intro (HX.out.2.2.1.kept (((Kept.refl w8).alloc _).trans hk)) (HX.out.2.2.2.kept (((Kept.refl w8).alloc _).trans hk)))))
   have HA := hid' (And.intro (HA.out.1.kept (((Kept.refl w8).alloc _).trans hk)) (And.intro (HA.out.2.1.kept (((Kept.refl w8).alloc _).trans hk)) HA.out.2.2))
   have HS6 := hid' (Nat.le_trans HS6.out (((Kept.refl w8).alloc _).trans hk).size)
   have HB := hid' (And.intro (HB.out.1.kept (((Kept.refl w8).alloc _).trans hk)) (And.intro (HB.out.2.1.kept (((Kept.refl w8).alloc _).trans hk)) HB.out.2.2))
   have HC := hid' (And.intro (HC.out.1.kept (((Kept.refl w8).alloc _).trans hk)) (And.intro (HC.out.2.1.kept (((Kept.refl w8).alloc _).trans hk)) HC.out.2.2))
   obtain ⟨sD, oD, kD, cD, tD, pD, gD, hD, eD, lD, mD, rfl, hsD, htD, hlD, hmD, hqD⟩ := DivIs.res hM
   have HD := hid' (And.intro hsD (And.intro htD (And.intro hlD (And.intro hmD hqD))))
   clear hM hsD htD hlD hmD hqD
   clear hk
   have f32 := fun x0 => (Hx.out.kept ((Kept.refl w9).alloc x0)).c0
   have f33 := fun x0 => (Hx.out.kept ((Kept.refl w9).alloc x0)).c1
   have f34 := fun x0 => (Hx.out.kept ((Kept.refl w9).alloc x0)).c2
   have f35 := fun x0 => (Hx.out.kept ((Kept.refl w9).alloc x0)).c3
   have f36 := fun x0 => (Hy.out.kept ((Kept.refl w9).alloc x0)).c0
   have f37 := fun x0 => (Hy.out.kept ((Kept.refl w9).alloc x0)).c1
   have f38 := fun x0 => (Hy.out.kept ((Kept.refl w9).alloc x0)).c2
   have f39 := fun x0 => (Hy.out.kept ((Kept.refl w9).alloc x0)).c3
   go_wp2_with fail
   refine (Cmp_all m nA n nB (some ⟨x1, 0, none⟩) (some ⟨x2, 0, none⟩) (some ⟨x3, 0, none⟩) (some ⟨x4, 0, none⟩) k1 y1 k2 y2 k3 y3 k4 y4 an ad bn bd _ (HX.out.1.sl.kept ((Kept.refl w9).alloc _)) (HX.out.2.1.sl.kept ((Kept.refl w9).alloc _)) (HX.out.2.2.1.sl.kept ((Kept.refl w9).alloc _)) (HX.out.2.2.2.sl.kept ((Kept.refl w9).alloc _)) HL'.out.1 HL'.out.2.1 HL'.out.2.2.1 HL'.out.2.2.2).mono ?_
   rintro e w10 ⟨hk, hM⟩
   clear f32 f33 f34 f35 f36 f37 f38 f39
   have Hrd' := (RRow.alloc w9 (.bool sD) (.slice oD kD cD) (.bool tD) (.slice pD gD hD)).kept ((Kept.refl _).trans hk)
   have Hrd := hid' Hrd'
   clear Hrd'
   have Ha := hid' (Ha.out.kept (((Kept.refl w9).alloc _).trans hk))
   have Hb := hid' (Hb.out.kept (((Kept.refl w9).alloc _).trans hk))
   have Hx := hid' (Hx.out.kept (((Kept.refl w9).alloc _).trans hk))
   have Hy := hid' (Hy.out.kept (((Kept.refl w9).alloc _).trans hk))
   have Hra := hid' (Hra.out.kept (((Kept.refl w9).alloc _).trans hk))
   have Hrb := hid' (Hrb.out.kept (((Kept.refl w9).alloc _).trans hk))
   have Hrc := hid' (Hrc.out.kept (((Kept.refl w9).alloc _).trans hk))
   have HK := hid' (HK.out.trans (((Kept.refl w9).alloc _).trans hk))
   have HX := hid' (And.intro (HX.out.1.kept (((Kept.refl w9).alloc _).trans hk)) (And.intro (HX.out.2.1.kept (((Kept.refl w9).alloc _).trans hk)) (And.intro (HX.out.2.2.1.kept (((Kept.refl w9).alloc _).trans hk)) (HX.out.2.2.2.kept (((Kept.refl w9).alloc _).trans hk)))))
   have HA := hid' (And.intro (HA.out.1.kept (((Kept.refl w9).alloc _).trans hk)) (And.intro (HA.out.2.1.kept (((Kept.refl w9).alloc _).trans hk)) HA.out.2.2))
   have HS6 := hid' (Nat.le_trans HS6.out (((Kept.refl w9).alloc _).trans hk).size)
   have HB := hid' (And.intro (HB.out.1.kept (((Kept.refl w9).alloc _).trans hk)) (And.intro (HB.out.2.1.kept (((Kept.refl w9).alloc _).trans hk)) HB.out.2.2))
   have HC := hid' (And.intro (HC.out.1.kept (((Kept.refl w9).alloc _).trans hk)) (And.intro (HC.out.2.1.kept (((Kept.refl w9).alloc _).trans hk)) HC.out.2.2))
   have HD := hid' (And.intro (HD.out.1.kept (((Kept.refl w9).alloc _).trans hk)) (And.intro (HD.out.2.1.kept (((Kept.refl w9).alloc _).trans hk)) HD.out.2.2))
   obtain ⟨cv, cc, rfl, hM⟩ := CmpIs.split hM
   have HCM := hid' hM
   clear hM
   clear hk
   have HSE : Hid (w6.heap.size ≤ w10.heap.size) := HS6.out
   have f40 := Ha.out.c0
   have f41 := Ha.out.c1
   have f42 := Ha.out.c2
   have f43 := Ha.out.c3
   have f44 := Hb.out.c0
   have f45 := Hb.out.c1
   have f46 := Hb.out.c2
   have f47 := Hb.out.c3
   go_wp2_with fail
   refine (Two_plus m nA n nB a1 a2 b1 b2 k1 c1 k2 c2 k3 c3 k4 c4 an ad bn bd _ (HG.out.1.kept (HK.out.trans (Kept.refl w10))) (HG.out.2.1.kept (HK.out.trans (Kept.refl w10))) (HG.out.2.2.1.kept (HK.out.trans (Kept.refl w10))) (HG.out.2.2.2.kept (HK.out.trans (Kept.refl w10))) HL'.out.1 HL'.out.2.1 HL'.out.2.2.1 HL'.out.2.2.2).mono ?_
   rintro e w11 ⟨hk, hM⟩
   clear f40 f41 f42 f43 f44 f45 f46 f47
   have Ha := hid' (Ha.out.kept ((Kept.refl w10).trans hk))
   have Hb := hid' (Hb.out.kept ((Kept.refl w10).trans hk))
   have Hx := hid' (Hx.out.kept ((Kept.refl w10).trans hk))
   have Hy := hid' (Hy.out.kept ((Kept.refl w10).trans hk))
   have Hra := hid' (Hra.out.kept ((Kept.refl w10).trans hk))
   have Hrb := hid' (Hrb.out.kept ((Kept.refl w10).trans hk))
   have Hrc := hid' (Hrc.out.kept ((Kept.refl w10).trans hk))
   have Hrd := hid' (Hrd.out.kept ((Kept.refl w10).trans hk))
   have HK := hid' (HK.out.trans ((Kept.refl w10).trans hk))
   have HX := hid' (And.intro (HX.out.1.kept ((Kept.refl w10).trans hk)) (And.intro (HX.out.2.1.kept ((Kept.refl w10).trans hk)) (And.intro (HX.out.2.2.1.kept ((Kept.refl w10).trans hk)) (HX.out.2.2.2.kept ((Kept.refl w10).trans hk)))))
   have HA := hid' (And.intro (HA.out.1.kept ((Kept.refl w10).trans hk)) (And.intro (HA.out.2.1.kept ((Kept.refl w10).trans hk)) HA.out.2.2))
   have HS6 := hid' (Nat.le_trans HS6.out ((Kept.refl w10).trans hk).size)
   have HB := hid' (And.intro (HB.out.1.kept ((Kept.refl w10).trans hk)) (And.intro (HB.out.2.1.kept ((Kept.refl w10).trans hk)) HB.out.2.2))
   have HC := hid' (And.intro (HC.out.1.kept ((Kept.refl w10).trans hk)) (And.intro (HC.out.2.1.kept ((Kept.refl w10).trans hk)) HC.out.2.2))
   have HD := hid' (And.intro (HD.out.1.kept ((Kept.refl w10).trans hk)) (And.intro (HD.out.2.1.kept ((Kept.refl w10).trans hk)) HD.out.2.2))
   obtain ⟨sE, oE, kE, cE, tE, pE, gE, hE, eE, lE, mE, rfl, hsE, htE, hlE, hmE, hqE⟩ := OpIs.res hM
   have HE := hid' (And.intro hsE (And.intro htE (And.intro hlE (And.intro hmE hqE))))
   clear hM hsE htE hlE hmE hqE
   clear hk
   have HS11 : Hid (w6.heap.size ≤ w11.heap.size) := HS6.out
   have f48 := fun x0 => (Ha.out.kept ((Kept.refl w11).alloc x0)).c0
   have f49 := fun x0 => (Ha.out.kept ((Kept.refl w11).alloc x0)).c1
   have f50 := fun x0 => (Ha.out.kept ((Kept.refl w11).alloc x0)).c2
   have f51 := fun x0 => (Ha.out.kept ((Kept.refl w11).alloc x0)).c3
   have f52 := fun x0 => (Hb.out.kept ((Kept.refl w11).alloc x0)).c0
   have f53 := fun x0 => (Hb.out.kept ((Kept.refl w11).alloc x0)).c1
   have f54 := fun x0 => (Hb.out.kept ((Kept.refl w11).alloc x0)).c2
   have f55 := fun x0 => (Hb.out.kept ((Kept.refl w11).alloc x0)).c3
   go_wp2_with fail
   refine (Two_minus m nA n nB a1 a2 b1 b2 k1 c1 k2 c2 k3 c3 k4 c4 an ad bn bd _ (HG.out.1.kept (HK.out.trans ((Kept.refl w11).alloc _))) (HG.out.2.1.kept (HK.out.trans ((Kept.refl w11).alloc _))) (HG.out.2.2.1.kept (HK.out.trans ((Kept.refl w11).alloc _))) (HG.out.2.2.2.kept (HK.out.trans ((Kept.refl w11).alloc _))) HL'.out.1 HL'.out.2.1 HL'.out.2.2.1 HL'.out.2.2.2).mono ?_
   rintro e w12 ⟨hk, hM⟩
   clear f48 f49 f50 f51 f52 f53 f54 f55
   have Hre' := (RRow.alloc w11 (.bool sE) (.slice oE kE cE) (.bool tE) (.slice pE gE hE)).kept ((Kept.refl _).trans hk)
   have Hre := hid' Hre'
   clear Hre'
   have Ha := hid' (Ha.out.kept (((Kept.refl w11).alloc _).trans hk))
   have Hb := hid' (Hb.out.kept (((Kept.refl w11).alloc _).trans hk))
   have Hx := hid' (Hx.out.kept (((Kept.refl w11).alloc _).trans hk))
   have Hy := hid' (Hy.out.kept (((Kept.refl w11).alloc _).trans hk))
   have Hra := hid' (Hra.out.kept (((Kept.refl w11).alloc _).trans hk))
   have Hrb := hid' (Hrb.out.kept (((Kept.refl w11).alloc _).trans hk))
   have Hrc := hid' (Hrc.out.kept (((Kept.refl w11).alloc _).trans hk))
   have Hrd := hid' (Hrd.out.kept (((Kept.refl w11).alloc _).trans hk))
   have HK := hid' (HK.out.trans (((Kept.refl w11).alloc _).trans hk))
   have HX := hid' (And.intro (HX.out.1.kept (((Kept.refl w11).alloc _).trans hk)) (And.intro (HX.out.2.1.kept (((Kept.refl w11).alloc _).trans hk)) (And.intro (HX.out.2.2.1.kept (((Kept.refl w11).alloc _).trans hk)) (HX.out.2.2.2.kept (((Kept.refl w11).alloc _).trans hk)))))
   have HA := hid' (And.intro (HA.out.1.kept (((Kept.refl w11).alloc _).trans hk)) (And.intro (HA.out.2.1.kept (((Kept.refl w11).alloc _).trans hk)) HA.out.2.2))
   have HS6 := hid' (Nat.le_trans HS6.out (((Kept.refl w11).alloc _).trans hk).size)
   have HB := hid' (And.intro (HB.out.1.kept (((Kept.refl w11).alloc _).trans hk)) (And.intro (HB.out.2.1.kept (((Kept.refl w11).alloc _).trans hk)) HB.out.2.2))
   have HC := hid' (And.intro (HC.out.1.kept (((Kept.refl w11).alloc _).trans hk)) (And.intro (HC.out.2.1.kept (((Kept.refl w11).alloc _).trans hk)) HC.out.2.2))
   have HD := hid' (And.intro (HD.out.1.kept (((Kept.refl w11).alloc _).trans hk)) (And.intro (HD.out.2.1.kept (((Kept.refl w11).alloc _).trans hk)) HD.out.2.2))
   have HE := hid' (And.intro (HE.out.1.kept (((Kept.refl w11).alloc _).trans hk)) (And.intro (HE.out.2.1.kept (((Kept.refl w11).alloc _).trans hk)) HE.out.2.2))
   obtain ⟨sF, oF, kF, cF, tF, pF, gF, hF, eF, lF, mF, rfl, hsF, htF, hlF, hmF, hqF⟩ := OpIs.res hM
   have HF := hid' (And.intro hsF (And.intro htF (And.intro hlF (And.intro hmF hqF))))
   clear hM hsF htF hlF hmF hqF
   clear hk
   have f56 := fun x0 => (Ha.out.kept ((Kept.refl w12).alloc x0)).c0
   have f57 := fun x0 => (Ha.out.kept ((Kept.refl w12).alloc x0)).c1
   have f58 := fun x0 => (Ha.out.kept ((Kept.refl w12).alloc x0)).c2
   have f59 := fun x0 => (Ha.out.kept ((Kept.refl w12).alloc x0)).c3
   have f60 := fun x0 => (Hb.out.kept ((Kept.refl w12).alloc x0)).c0
   have f61 := fun x0 => (Hb.out.kept ((Kept.refl w12).alloc x0)).c1
   have f62 := fun x0 => (Hb.out.kept ((Kept.refl w12).alloc x0)).c2
   have f63 := fun x0 => (Hb.out.kept ((Kept.refl w12).alloc x0)).c3
   go_wp2_with fail
   refine (Two_times m nA n nB a1 a2 b1 b2 k1 c1 k2 c2 k3 c3 k4 c4 an ad bn bd _ (HG.out.1.kept (HK.out.trans ((Kept.refl w12).alloc _))) (HG.out.2.1.kept (HK.out.trans ((Kept.refl w12).alloc _))) (HG.out.2.2.1.kept (HK.out.trans ((Kept.refl w12).alloc _))) (HG.out.2.2.2.kept (HK.out.trans ((Kept.refl w12).alloc _))) HL'.out.1 HL'.out.2.1 HL'.out.2.2.1 HL'.out.2.2.2).mono ?_
   rintro e w13 ⟨hk, hM⟩
   clear f56 f57 f58 f59 f60 f61 f62 f63
   have Hrf' := (RRow.alloc w12 (.bool sF) (.slice oF kF cF) (.bool tF) (.slice pF gF hF)).kept ((Kept.refl _).trans hk)
   have Hrf := hid' Hrf'
   clear Hrf'
   have Ha := hid' (Ha.out.kept (((Kept.refl w12).alloc _).trans hk))
   have Hb := hid' (Hb.out.kept (((Kept.refl w12).alloc _).trans hk))
   have Hx := hid' (Hx.out.kept (((Kept.refl w12).alloc _).trans hk))
   have Hy := hid' (Hy.out.kept (((Kept.refl w12).alloc _).trans hk))
   have Hra := hid' (Hra.out.kept (((Kept.refl w12).alloc _).trans hk))
   have Hrb := hid' (Hrb.out.kept (((Kept.refl w12).alloc _).trans hk))
   have Hrc := hid' (Hrc.out.kept (((Kept.refl w12).alloc _).trans hk))
   have Hrd := hid' (Hrd.out.kept (((Kept.refl w12).alloc _).trans hk))
   have Hre := hid' (Hre.out.kept (((Kept.refl w12).alloc _).trans hk))
   have HK := hid' (HK.out.trans (((Kept.refl w12).alloc _).trans hk))
   have HX := hid' (And.intro (HX.out.1.kept (((Kept.refl w12).alloc _).trans hk)) (And.intro (HX.out.2.1.kept (((Kept.refl w12).alloc _).trans hk)) (And.intro (HX.out.2.2.1.kept (((Kept.refl w12).alloc _).trans hk)) (HX.out.2.2.2.kept (((Kept.refl w12).alloc _).trans hk)))))
   have HA := hid' (And.intro (HA.out.1.kept (((Kept.refl w12).alloc _).trans hk)) (And.intro (HA.out.2.1.kept (((Kept.refl w12).alloc _).trans hk)) HA.out.2.2))
   have HS6 := hid' (Nat.le_trans HS6.out (((Kept.refl w12).alloc _).trans hk).size)
   have HB := hid' (And.intro (HB.out.1.kept (((Kept.refl w12).alloc _).trans hk)) (And.intro (HB.out.2.1.kept (((Kept.refl w12).alloc _).trans hk)) HB.out.2.2))
   have HC := hid' (And.intro (HC.out.1.kept (((Kept.refl w12).alloc _).trans hk)) (And.intro (HC.out.2.1.kept (((Kept.refl w12).alloc _).trans hk)) HC.out.2.2))
   have HD := hid' (And.intro (HD.out.1.kept (((Kept.refl w12).alloc _).trans hk)) (And.intro (HD.out.2.1.kept (((Kept.refl w12).alloc _).trans hk)) HD.out.2.2))
   have HE := hid' (And.intro (HE.out.1.kept (((Kept.refl w12).alloc _).trans hk)) (And.intro (HE.out.2.1.kept (((Kept.refl w12).alloc _).trans hk)) HE.out.2.2))
   have HF := hid' (And.intro (HF.out.1.kept (((Kept.refl w12).alloc _).trans hk)) (And.intro (HF.out.2.1.kept (((Kept.refl w12).alloc _).trans hk)) HF.out.2.2))
   obtain ⟨sG, oG, kG, cG, tG, pG, gG, hG, eG, lG, mG, rfl, hsG, htG, hlG, hmG, hqG⟩ := OpIs.res hM
   have HGg := hid' (And.intro hsG (And.intro htG (And.intro hlG (And.intro hmG hqG))))
   clear hM hsG htG hlG hmG hqG
   clear hk
   have f64 := fun x0 => (Ha.out.kept ((Kept.refl w13).alloc x0)).c0
   have f65 := fun x0 => (Ha.out.kept ((Kept.refl w13).alloc x0)).c1
   have f66 := fun x0 => (Ha.out.kept ((Kept.refl w13).alloc x0)).c2
   have f67 := fun x0 => (Ha.out.kept ((Kept.refl w13).alloc x0)).c3
   have f68 := fun x0 => (Hb.out.kept ((Kept.refl w13).alloc x0)).c0
   have f69 := fun x0 => (Hb.out.kept ((Kept.refl w13).alloc x0)).c1
   have f70 := fun x0 => (Hb.out.kept ((Kept.refl w13).alloc x0)).c2
   have f71 := fun x0 => (Hb.out.kept ((Kept.refl w13).alloc x0)).c3
   go_wp2_with fail
   refine (Two_over m nA n nB a1 a2 b1 b2 k1 c1 k2 c2 k3 c3 k4 c4 an ad bn bd _ (HG.out.1.kept (HK.out.trans ((Kept.refl w13).alloc _))) (HG.out.2.1.kept (HK.out.trans ((Kept.refl w13).alloc _))) (HG.out.2.2.1.kept (HK.out.trans ((Kept.refl w13).alloc _))) (HG.out.2.2.2.kept (HK.out.trans ((Kept.refl w13).alloc _))) HL'.out.1 HL'.out.2.1 HL'.out.2.2.1 HL'.out.2.2.2).mono ?_
   rintro e w14 ⟨hk, hM⟩
   clear f64 f65 f66 f67 f68 f69 f70 f71
   have Hrg' := (RRow.alloc w13 (.bool sG) (.slice oG kG cG) (.bool tG) (.slice pG gG hG)).kept ((Kept.refl _).trans hk)
   have Hrg := hid' Hrg'
   clear Hrg'
   have Ha := hid' (Ha.out.kept (((Kept.refl w13).alloc _).trans hk))
   have Hb := hid' (Hb.out.kept (((Kept.refl w13).alloc _).trans hk))
   have Hx := hid' (Hx.out.kept (((Kept.refl w13).alloc _).trans hk))
   have Hy := hid' (Hy.out.kept (((Kept.refl w13).alloc _).trans hk))
   have Hra := hid' (Hra.out.kept (((Kept.refl w13).alloc _).trans hk))
   have Hrb := hid' (Hrb.out.kept (((Kept.refl w13).alloc _).trans hk))
   have Hrc := hid' (Hrc.out.kept (((Kept.refl w13).alloc _).trans hk))
   have Hrd := hid' (Hrd.out.kept (((Kept.refl w13).alloc _).trans hk))
   have Hre := hid' (Hre.out.kept (((Kept.refl w13).alloc _).trans hk))
   have Hrf := hid' (Hrf.out.kept (((Kept.refl w13).alloc _).trans hk))
   have HK := hid' (HK.out.trans (((Kept.refl w13).alloc _).trans hk))
   have HX := hid' (And.intro (HX.out.1.kept (((Kept.refl w13).alloc _).trans hk)) (And.intro (HX.out.2.1.kept (((Kept.refl w13).alloc _).trans hk)) (And.intro (HX.out.2.2.1.kept (((Kept.refl w13).alloc _).trans hk)) (HX.out.2.2.2.kept (((Kept.refl w13).alloc _).trans hk)))))
   have HA := hid' (And.intro (HA.out.1.kept (((Kept.refl w13).alloc _).trans hk)) (And.intro (HA.out.2.1.kept (((Kept.refl w13).alloc _).trans hk)) HA.out.2.2))
   have HS6 := hid' (Nat.le_trans HS6.out (((Kept.refl w13).alloc _).trans hk).size)
   have HB := hid' (And.intro (HB.out.1.kept (((Kept.refl w13).alloc _).trans hk)) (And.intro (HB.out.2.1.kept (((Kept.refl w13).alloc _).trans hk)) HB.out.2.2))
   have HC := hid' (And.intro (HC.out.1.kept (((Kept.refl w13).alloc _).trans hk)) (And.intro (HC.out.2.1.kept (((Kept.refl w13).alloc _).trans hk)) HC.out.2.2))
   have HD := hid' (And.intro (HD.out.1.kept (((Kept.refl w13).alloc _).trans hk)) (And.intro (HD.out.2.1.kept (((Kept.refl w13).alloc _).trans hk)) HD.out.2.2))
   have HE := hid' (And.intro (HE.out.1.kept (((Kept.refl w13).alloc _).trans hk)) (And.intro (HE.out.2.1.kept (((Kept.refl w13).alloc _).trans hk)) HE.out.2.2))
   have HF := hid' (And.intro (HF.out.1.kept (((Kept.refl w13).alloc _).trans hk)) (And.intro (HF.out.2.1.kept (((Kept.refl w13).alloc _).trans hk)) HF.out.2.2))
   have HGg := hid' (And.intro (HGg.out.1.kept (((Kept.refl w13).alloc _).trans hk)) (And.intro (HGg.out.2.1.kept (((Kept.refl w13).alloc _).trans hk)) HGg.out.2.2))
   obtain ⟨sH, oH, kH, cH, tH, pH, gH, hH, eH, lH, mH, rfl, hsH, htH, hlH, hmH, hqH⟩ := DivIs.res hM
   have HH := hid' (And.intro hsH (And.intro htH (And.intro hlH (And.intro hmH hqH))))
   clear hM hsH htH hlH hmH hqH
   clear hk
   have f72 := fun x0 => (Ha.out.kept ((Kept.refl w14).alloc x0)).c0
   have f73 := fun x0 => (Ha.out.kept ((Kept.refl w14).alloc x0)).c1
   have f74 := fun x0 => (Ha.out.kept ((Kept.refl w14).alloc x0)).c2
   have f75 := fun x0 => (Ha.out.kept ((Kept.refl w14).alloc x0)).c3
   have f76 := fun x0 => (Hb.out.kept ((Kept.refl w14).alloc x0)).c0
   have f77 := fun x0 => (Hb.out.kept ((Kept.refl w14).alloc x0)).c1
   have f78 := fun x0 => (Hb.out.kept ((Kept.refl w14).alloc x0)).c2
   have f79 := fun x0 => (Hb.out.kept ((Kept.refl w14).alloc x0)).c3
   go_wp2_with fail
   refine (RCmp_any m nA n nB a1 a2 b1 b2 k1 c1 k2 c2 k3 c3 k4 c4 an ad bn bd _ (HG.out.1.kept (HK.out.trans ((Kept.refl w14).alloc _))) (HG.out.2.1.kept (HK.out.trans ((Kept.refl w14).alloc _))) (HG.out.2.2.1.kept (HK.out.trans ((Kept.refl w14).alloc _))) (HG.out.2.2.2.kept (HK.out.trans ((Kept.refl w14).alloc _))) HL'.out.1 HL'.out.2.1 HL'.out.2.2.1 HL'.out.2.2.2).mono ?_
   rintro e w15 ⟨hk, hM⟩
   clear f72 f73 f74 f75 f76 f77 f78 f79
   have Hrh' := (RRow.alloc w14 (.bool sH) (.slice oH kH cH) (.bool tH) (.slice pH gH hH)).kept ((Kept.refl _).trans hk)
   have Hrh := hid' Hrh'
   clear Hrh'
   have Ha := hid' (Ha.out.kept (((Kept.refl w14).alloc _).trans hk))
   have Hb := hid' (Hb.out.kept (((Kept.refl w14).alloc _).trans hk))
   have Hx := hid' (Hx.out.kept (((Kept.refl w14).alloc _).trans hk))
   have Hy := hid' (Hy.out.kept (((Kept.refl w14).alloc _).trans hk))
   have Hra := hid' (Hra.out.kept (((Kept.refl w14).alloc _).trans hk))
   have Hrb := hid' (Hrb.out.kept (((Kept.refl w14).alloc _).trans hk))
   have Hrc := hid' (Hrc.out.kept (((Kept.refl w14).alloc _).trans hk))
   have Hrd := hid' (Hrd.out.kept (((Kept.refl w14).alloc _).trans hk))
   have Hre := hid' (Hre.out.kept (((Kept.refl w14).alloc _).trans hk))
   have Hrf := hid' (Hrf.out.kept (((Kept.refl w14).alloc _).trans hk))
   have Hrg := hid' (Hrg.out.kept (((Kept.refl w14).alloc _).trans hk))
   have HK := hid' (HK.out.trans (((Kept.refl w14).alloc _).trans hk))
   have HX := hid' (And.intro (HX.out.1.kept (((Kept.refl w14).alloc _).trans hk)) (And.intro (HX.out.2.1.kept (((Kept.refl w14).alloc _).trans hk)) (And.intro (HX.out.2.2.1.kept (((Kept.refl w14).alloc _).trans hk)) (HX.out.2.2.2.kept (((Kept.refl w14).alloc _).trans hk)))))
   have HA := hid' (And.intro (HA.out.1.kept (((Kept.refl w14).alloc _).trans hk)) (And.intro (HA.out.2.1.kept (((Kept.refl w14).alloc _).trans hk)) HA.out.2.2))
   have HS6 := hid' (Nat.le_trans HS6.out (((Kept.refl w14).alloc _).trans hk).size)
   have HB := hid' (And.intro (HB.out.1.kept (((Kept.refl w14).alloc _).trans hk)) (And.intro (HB.out.2.1.kept (((Kept.refl w14).alloc _).trans hk)) HB.out.2.2))
   have HC := hid' (And.intro (HC.out.1.kept (((Kept.refl w14).alloc _).trans hk)) (And.intro (HC.out.2.1.kept (((Kept.refl w14).alloc _).trans hk)) HC.out.2.2))
   have HD := hid' (And.intro (HD.out.1.kept (((Kept.refl w14).alloc _).trans hk)) (And.intro (HD.out.2.1.kept (((Kept.refl w14).alloc _).trans hk)) HD.out.2.2))
   have HE := hid' (And.intro (HE.out.1.kept (((Kept.refl w14).alloc _).trans hk)) (And.intro (HE.out.2.1.kept (((Kept.refl w14).alloc _).trans hk)) HE.out.2.2))
   have HF := hid' (And.intro (HF.out.1.kept (((Kept.refl w14).alloc _).trans hk)) (And.intro (HF.out.2.1.kept (((Kept.refl w14).alloc _).trans hk)) HF.out.2.2))
   have HGg := hid' (And.intro (HGg.out.1.kept (((Kept.refl w14).alloc _).trans hk)) (And.intro (HGg.out.2.1.kept (((Kept.refl w14).alloc _).trans hk)) HGg.out.2.2))
   have HH := hid' (And.intro (HH.out.1.kept (((Kept.refl w14).alloc _).trans hk)) (And.intro (HH.out.2.1.kept (((Kept.refl w14).alloc _).trans hk)) HH.out.2.2))
   have hRe := CmpIs.one hM HCM.out
   subst hRe
   clear hM HCM
   clear hk
   have HDEN : Hid (RatR m nA an ad ∧ RatR n nB bn bd → M.int nA ad * M.int nB bd ≠ 0) := fun h => Int.mul_ne_zero (by have := h.1.pos; omega) (by have := h.2.pos; omega)
   obtain ⟨rfl, rfl, rfl, rfl, rfl⟩ := OpQ.one HDEN.out HA.out.2.2.2.2 HE.out.2.2.2.2
   obtain ⟨rfl, rfl, rfl, rfl, rfl⟩ := OpQ.one HDEN.out HB.out.2.2.2.2 HF.out.2.2.2.2
   obtain ⟨rfl, rfl, rfl, rfl, rfl⟩ := OpQ.one HDEN.out HC.out.2.2.2.2 HGg.out.2.2.2.2
   obtain ⟨rfl, rfl, rfl, rfl, rfl⟩ := DivQ.one HD.out.2.2.2.2 HH.out.2.2.2.2
   have f80 := Hra.out.c0
   have f81 := Hra.out.c1
   have f82 := Hra.out.c2
   have f83 := Hra.out.c3
   have f84 := Hre.out.c0
   have f85 := Hre.out.c1
   have f86 := Hre.out.c2
   have f87 := Hre.out.c3
   go_wp2_with fail
   refine (lsame_r sE tE _ _ _ _ lE mE _ (HA.out.1.kept (Kept.refl w15)).sl (HA.out.2.1.kept (Kept.refl w15)).sl (HE.out.1.kept (Kept.refl w15)).sl (HE.out.2.1.kept (Kept.refl w15)).sl (by have := HE.out.2.2.1; omega) (by have := HE.out.2.2.2.1; omega)).mono ?_
   rintro e w16 ⟨rfl, hk⟩
   clear f80 f81 f82 f83 f84 f85 f86 f87
   have Ha := hid' (Ha.out.kept ((Kept.refl w15).trans hk))
   have Hb := hid' (Hb.out.kept ((Kept.refl w15).trans hk))
   have Hx := hid' (Hx.out.kept ((Kept.refl w15).trans hk))
   have Hy := hid' (Hy.out.kept ((Kept.refl w15).trans hk))
   have Hra := hid' (Hra.out.kept ((Kept.refl w15).trans hk))
   have Hrb := hid' (Hrb.out.kept ((Kept.refl w15).trans hk))
   have Hrc := hid' (Hrc.out.kept ((Kept.refl w15).trans hk))
   have Hrd := hid' (Hrd.out.kept ((Kept.refl w15).trans hk))
   have Hre := hid' (Hre.out.kept ((Kept.refl w15).trans hk))
   have Hrf := hid' (Hrf.out.kept ((Kept.refl w15).trans hk))
   have Hrg := hid' (Hrg.out.kept ((Kept.refl w15).trans hk))
   have Hrh := hid' (Hrh.out.kept ((Kept.refl w15).trans hk))
   have HK := hid' (HK.out.trans ((Kept.refl w15).trans hk))
   have HX := hid' (And.intro (HX.out.1.kept ((Kept.refl w15).trans hk)) (And.intro (HX.out.2.1.kept ((Kept.refl w15).trans hk)) (And.intro (HX.out.2.2.1.kept ((Kept.refl w15).trans hk)) (HX.out.2.2.2.kept ((Kept.refl w15).trans hk)))))
   have HA := hid' (And.intro (HA.out.1.kept ((Kept.refl w15).trans hk)) (And.intro (HA.out.2.1.kept ((Kept.refl w15).trans hk)) HA.out.2.2))
   have HS6 := hid' (Nat.le_trans HS6.out ((Kept.refl w15).trans hk).size)
   have HB := hid' (And.intro (HB.out.1.kept ((Kept.refl w15).trans hk)) (And.intro (HB.out.2.1.kept ((Kept.refl w15).trans hk)) HB.out.2.2))
   have HC := hid' (And.intro (HC.out.1.kept ((Kept.refl w15).trans hk)) (And.intro (HC.out.2.1.kept ((Kept.refl w15).trans hk)) HC.out.2.2))
   have HD := hid' (And.intro (HD.out.1.kept ((Kept.refl w15).trans hk)) (And.intro (HD.out.2.1.kept ((Kept.refl w15).trans hk)) HD.out.2.2))
   have HE := hid' (And.intro (HE.out.1.kept ((Kept.refl w15).trans hk)) (And.intro (HE.out.2.1.kept ((Kept.refl w15).trans hk)) HE.out.2.2))
   have HF := hid' (And.intro (HF.out.1.kept ((Kept.refl w15).trans hk)) (And.intro (HF.out.2.1.kept ((Kept.refl w15).trans hk)) HF.out.2.2))
   have HGg := hid' (And.intro (HGg.out.1.kept ((Kept.refl w15).trans hk)) (And.intro (HGg.out.2.1.kept ((Kept.refl w15).trans hk)) HGg.out.2.2))
   have HH := hid' (And.intro (HH.out.1.kept ((Kept.refl w15).trans hk)) (And.intro (HH.out.2.1.kept ((Kept.refl w15).trans hk)) HH.out.2.2))
   clear hk
   have f88 := Hrb.out.c0
   have f89 := Hrb.out.c1
   have f90 := Hrb.out.c2
   have f91 := Hrb.out.c3
   have f92 := Hrf.out.c0
   have f93 := Hrf.out.c1
   have f94 := Hrf.out.c2
   have f95 := Hrf.out.c3
   go_wp2_with fail
   refine (lsame_r sF tF _ _ _ _ lF mF _ (HB.out.1.kept (Kept.refl w16)).sl (HB.out.2.1.kept (Kept.refl w16)).sl (HF.out.1.kept (Kept.refl w16)).sl (HF.out.2.1.kept (Kept.refl w16)).sl (by have := HF.out.2.2.1; omega) (by have := HF.out.2.2.2.1; omega)).mono ?_
   rintro e w17 ⟨rfl, hk⟩
   clear f88 f89 f90 f91 f92 f93 f94 f95
   have Ha := hid' (Ha.out.kept ((Kept.refl w16).trans hk))
   have Hb := hid' (Hb.out.kept ((Kept.refl w16).trans hk))
   have Hx := hid' (Hx.out.kept ((Kept.refl w16).trans hk))
   have Hy := hid' (Hy.out.kept ((Kept.refl w16).trans hk))
   have Hra := hid' (Hra.out.kept ((Kept.refl w16).trans hk))
   have Hrb := hid' (Hrb.out.kept ((Kept.refl w16).trans hk))
   have Hrc := hid' (Hrc.out.kept ((Kept.refl w16).trans hk))
   have Hrd := hid' (Hrd.out.kept ((Kept.refl w16).trans hk))
   have Hre := hid' (Hre.out.kept ((Kept.refl w16).trans hk))
   have Hrf := hid' (Hrf.out.kept ((Kept.refl w16).trans hk))
   have Hrg := hid' (Hrg.out.kept ((Kept.refl w16).trans hk))
   have Hrh := hid' (Hrh.out.kept ((Kept.refl w16).trans hk))
   have HK := hid' (HK.out.trans ((Kept.refl w16).trans hk))
   have HX := hid' (And.intro (HX.out.1.kept ((Kept.refl w16).trans hk)) (And.intro (HX.out.2.1.kept ((Kept.refl w16).trans hk)) (And.intro (HX.out.2.2.1.kept ((Kept.refl w16).trans hk)) (HX.out.2.2.2.kept ((Kept.refl w16).trans hk)))))
   have HA := hid' (And.intro (HA.out.1.kept ((Kept.refl w16).trans hk)) (And.intro (HA.out.2.1.kept ((Kept.refl w16).trans hk)) HA.out.2.2))
   have HS6 := hid' (Nat.le_trans HS6.out ((Kept.refl w16).trans hk).size)
   have HB := hid' (And.intro (HB.out.1.kept ((Kept.refl w16).trans hk)) (And.intro (HB.out.2.1.kept ((Kept.refl w16).trans hk)) HB.out.2.2))
   have HC := hid' (And.intro (HC.out.1.kept ((Kept.refl w16).trans hk)) (And.intro (HC.out.2.1.kept ((Kept.refl w16).trans hk)) HC.out.2.2))
   have HD := hid' (And.intro (HD.out.1.kept ((Kept.refl w16).trans hk)) (And.intro (HD.out.2.1.kept ((Kept.refl w16).trans hk)) HD.out.2.2))
   have HE := hid' (And.intro (HE.out.1.kept ((Kept.refl w16).trans hk)) (And.intro (HE.out.2.1.kept ((Kept.refl w16).trans hk)) HE.out.2.2))
   have HF := hid' (And.intro (HF.out.1.kept ((Kept.refl w16).trans hk)) (And.intro (HF.out.2.1.kept ((Kept.refl w16).trans hk)) HF.out.2.2))
   have HGg := hid' (And.intro (HGg.out.1.kept ((Kept.refl w16).trans hk)) (And.intro (HGg.out.2.1.kept ((Kept.refl w16).trans hk)) HGg.out.2.2))
   have HH := hid' (And.intro (HH.out.1.kept ((Kept.refl w16).trans hk)) (And.intro (HH.out.2.1.kept ((Kept.refl w16).trans hk)) HH.out.2.2))
   clear hk
   have f96 := Hrc.out.c0
   have f97 := Hrc.out.c1
   have f98 := Hrc.out.c2
   have f99 := Hrc.out.c3
   have f100 := Hrg.out.c0
   have f101 := Hrg.out.c1
   have f102 := Hrg.out.c2
   have f103 := Hrg.out.c3
   go_wp2_with fail
   refine (lsame_r sG tG _ _ _ _ lG mG _ (HC.out.1.kept (Kept.refl w17)).sl (HC.out.2.1.kept (Kept.refl w17)).sl (HGg.out.1.kept (Kept.refl w17)).sl (HGg.out.2.1.kept (Kept.refl w17)).sl (by have := HGg.out.2.2.1; omega) (by have := HGg.out.2.2.2.1; omega)).mono ?_
   rintro e w18 ⟨rfl, hk⟩
   clear f96 f97 f98 f99 f100 f101 f102 f103
   have Ha := hid' (Ha.out.kept ((Kept.refl w17).trans hk))
   have Hb := hid' (Hb.out.kept ((Kept.refl w17).trans hk))
   have Hx := hid' (Hx.out.kept ((Kept.refl w17).trans hk))
   have Hy := hid' (Hy.out.kept ((Kept.refl w17).trans hk))
   have Hra := hid' (Hra.out.kept ((Kept.refl w17).trans hk))
   have Hrb := hid' (Hrb.out.kept ((Kept.refl w17).trans hk))
   have Hrc := hid' (Hrc.out.kept ((Kept.refl w17).trans hk))
   have Hrd := hid' (Hrd.out.kept ((Kept.refl w17).trans hk))
   have Hre := hid' (Hre.out.kept ((Kept.refl w17).trans hk))
   have Hrf := hid' (Hrf.out.kept ((Kept.refl w17).trans hk))
   have Hrg := hid' (Hrg.out.kept ((Kept.refl w17).trans hk))
   have Hrh := hid' (Hrh.out.kept ((Kept.refl w17).trans hk))
   have HK := hid' (HK.out.trans ((Kept.refl w17).trans hk))
   have HX := hid' (And.intro (HX.out.1.kept ((Kept.refl w17).trans hk)) (And.intro (HX.out.2.1.kept ((Kept.refl w17).trans hk)) (And.intro (HX.out.2.2.1.kept ((Kept.refl w17).trans hk)) (HX.out.2.2.2.kept ((Kept.refl w17).trans hk)))))
   have HA := hid' (And.intro (HA.out.1.kept ((Kept.refl w17).trans hk)) (And.intro (HA.out.2.1.kept ((Kept.refl w17).trans hk)) HA.out.2.2))
   have HS6 := hid' (Nat.le_trans HS6.out ((Kept.refl w17).trans hk).size)
   have HB := hid' (And.intro (HB.out.1.kept ((Kept.refl w17).trans hk)) (And.intro (HB.out.2.1.kept ((Kept.refl w17).trans hk)) HB.out.2.2))
   have HC := hid' (And.intro (HC.out.1.kept ((Kept.refl w17).trans hk)) (And.intro (HC.out.2.1.kept ((Kept.refl w17).trans hk)) HC.out.2.2))
   have HD := hid' (And.intro (HD.out.1.kept ((Kept.refl w17).trans hk)) (And.intro (HD.out.2.1.kept ((Kept.refl w17).trans hk)) HD.out.2.2))
   have HE := hid' (And.intro (HE.out.1.kept ((Kept.refl w17).trans hk)) (And.intro (HE.out.2.1.kept ((Kept.refl w17).trans hk)) HE.out.2.2))
   have HF := hid' (And.intro (HF.out.1.kept ((Kept.refl w17).trans hk)) (And.intro (HF.out.2.1.kept ((Kept.refl w17).trans hk)) HF.out.2.2))
   have HGg := hid' (And.intro (HGg.out.1.kept ((Kept.refl w17).trans hk)) (And.intro (HGg.out.2.1.kept ((Kept.refl w17).trans hk)) HGg.out.2.2))
   have HH := hid' (And.intro (HH.out.1.kept ((Kept.refl w17).trans hk)) (And.intro (HH.out.2.1.kept ((Kept.refl w17).trans hk)) HH.out.2.2))
   clear hk
   have f104 := Hrd.out.c0
   have f105 := Hrd.out.c1
   have f106 := Hrd.out.c2
   have f107 := Hrd.out.c3
   have f108 := Hrh.out.c0
   have f109 := Hrh.out.c1
   have f110 := Hrh.out.c2
   have f111 := Hrh.out.c3
   go_wp2_with fail
   refine (lsame_r sH tH _ _ _ _ lH mH _ (HD.out.1.kept (Kept.refl w18)).sl (HD.out.2.1.kept (Kept.refl w18)).sl (HH.out.1.kept (Kept.refl w18)).sl (HH.out.2.1.kept (Kept.refl w18)).sl (by have := HH.out.2.2.1; omega) (by have := HH.out.2.2.2.1; omega)).mono ?_
   rintro e w19 ⟨rfl, hk⟩
   clear f104 f105 f106 f107 f108 f109 f110 f111
   have Ha := hid' (Ha.out.kept ((Kept.refl w18).trans hk))
   have Hb := hid' (Hb.out.kept ((Kept.refl w18).trans hk))
   have Hx := hid' (Hx.out.kept ((Kept.refl w18).trans hk))
   have Hy := hid' (Hy.out.kept ((Kept.refl w18).trans hk))
   have Hra := hid' (Hra.out.kept ((Kept.refl w18).trans hk))
   have Hrb := hid' (Hrb.out.kept ((Kept.refl w18).trans hk))
   have Hrc := hid' (Hrc.out.kept ((Kept.refl w18).trans hk))
   have Hrd := hid' (Hrd.out.kept ((Kept.refl w18).trans hk))
   have Hre := hid' (Hre.out.kept ((Kept.refl w18).trans hk))
   have Hrf := hid' (Hrf.out.kept ((Kept.refl w18).trans hk))
   have Hrg := hid' (Hrg.out.kept ((Kept.refl w18).trans hk))
   have Hrh := hid' (Hrh.out.kept ((Kept.refl w18).trans hk))
   have HK := hid' (HK.out.trans ((Kept.refl w18).trans hk))
   have HX := hid' (And.intro (HX.out.1.kept ((Kept.refl w18).trans hk)) (And.intro (HX.out.2.1.kept ((Kept.refl w18).trans hk)) (And.intro (HX.out.2.2.1.kept ((Kept.refl w18).trans hk)) (HX.out.2.2.2.kept ((Kept.refl w18).trans hk)))))
   have HA := hid' (And.intro (HA.out.1.kept ((Kept.refl w18).trans hk)) (And.intro (HA.out.2.1.kept ((Kept.refl w18).trans hk)) HA.out.2.2))
   have HS6 := hid' (Nat.le_trans HS6.out ((Kept.refl w18).trans hk).size)
   have HB := hid' (And.intro (HB.out.1.kept ((Kept.refl w18).trans hk)) (And.intro (HB.out.2.1.kept ((Kept.refl w18).trans hk)) HB.out.2.2))
   have HC := hid' (And.intro (HC.out.1.kept ((Kept.refl w18).trans hk)) (And.intro (HC.out.2.1.kept ((Kept.refl w18).trans hk)) HC.out.2.2))
   have HD := hid' (And.intro (HD.out.1.kept ((Kept.refl w18).trans hk)) (And.intro (HD.out.2.1.kept ((Kept.refl w18).trans hk)) HD.out.2.2))
   have HE := hid' (And.intro (HE.out.1.kept ((Kept.refl w18).trans hk)) (And.intro (HE.out.2.1.kept ((Kept.refl w18).trans hk)) HE.out.2.2))
   have HF := hid' (And.intro (HF.out.1.kept ((Kept.refl w18).trans hk)) (And.intro (HF.out.2.1.kept ((Kept.refl w18).trans hk)) HF.out.2.2))
   have HGg := hid' (And.intro (HGg.out.1.kept ((Kept.refl w18).trans hk)) (And.intro (HGg.out.2.1.kept ((Kept.refl w18).trans hk)) HGg.out.2.2))
   have HH := hid' (And.intro (HH.out.1.kept ((Kept.refl w18).trans hk)) (And.intro (HH.out.2.1.kept ((Kept.refl w18).trans hk)) HH.out.2.2))
   clear hk
   have HST : Hid (w6.heap.size ≤ w19.heap.size) := HS6.out
   clear HB HC HD HF HGg HH Hrb Hrc Hrd Hrf Hrg Hrh
   have f112 := Hx.out.c0
   have f113 := Hx.out.c1
   have f114 := Hx.out.c2
   have f115 := Hx.out.c3
   have f116 := Hy.out.c0
   have f117 := Hy.out.c1
   have f118 := Hy.out.c2
   have f119 := Hy.out.c3
   go_wp2_with fail
   refine (Add_all m nA n nB (some ⟨x1, 0, none⟩) (some ⟨x2, 0, none⟩) (some ⟨x3, 0, none⟩) (some ⟨x4, 0, none⟩) k1 y1 k2 y2 k3 y3 k4 y4 an ad bn bd _ (HX.out.1.sl.kept (Kept.refl w19)) (HX.out.2.1.sl.kept (Kept.refl w19)) (HX.out.2.2.1.sl.kept (Kept.refl w19)) (HX.out.2.2.2.sl.kept (Kept.refl w19)) HL'.out.1 HL'.out.2.1 HL'.out.2.2.1 HL'.out.2.2.2).mono ?_
   rintro e w20 ⟨hk, hM⟩
   clear f112 f113 f114 f115 f116 f117 f118 f119
   have Ha := hid' (Ha.out.kept ((Kept.refl w19).trans hk))
   have Hb := hid' (Hb.out.kept ((Kept.refl w19).trans hk))
   have Hx := hid' (Hx.out.kept ((Kept.refl w19).trans hk))
   have Hy := hid' (Hy.out.kept ((Kept.refl w19).trans hk))
   have Hra := hid' (Hra.out.kept ((Kept.refl w19).trans hk))
   have Hre := hid' (Hre.out.kept ((Kept.refl w19).trans hk))
   have HK := hid' (HK.out.trans ((Kept.refl w19).trans hk))
   have HX := hid' (And.intro (HX.out.1.kept ((Kept.refl w19).trans hk)) (And.intro (HX.out.2.1.kept ((Kept.refl w19).trans hk)) (And.intro (HX.out.2.2.1.kept ((Kept.refl w19).trans hk)) (HX.out.2.2.2.kept ((Kept.refl w19).trans hk)))))
   have HA := hid' (And.intro (HA.out.1.kept ((Kept.refl w19).trans hk)) (And.intro (HA.out.2.1.kept ((Kept.refl w19).trans hk)) HA.out.2.2))
   have HS6 := hid' (Nat.le_trans HS6.out ((Kept.refl w19).trans hk).size)
   have HE := hid' (And.intro (HE.out.1.kept ((Kept.refl w19).trans hk)) (And.intro (HE.out.2.1.kept ((Kept.refl w19).trans hk)) HE.out.2.2))
   obtain ⟨sT, oT, kT, cT, tT, pT, gT, hT, eT, lT, mT, rfl, hsT, htT, hlT, hmT, hqT⟩ := OpIs.res hM
   have HT := hid' (And.intro hsT (And.intro htT (And.intro hlT (And.intro hmT hqT))))
   clear hM hsT htT hlT hmT hqT
   clear hk
   obtain ⟨rfl, rfl, rfl, rfl, rfl⟩ := OpQ.one HDEN.out HE.out.2.2.2.2 HT.out.2.2.2.2
   have f900 := fun x => (Hra.out.kept ((Kept.refl w20).alloc x)).c1
   have f901 := fun x => (Hra.out.kept ((Kept.refl w20).alloc x)).c3
   go_upto_region 20 with fail
   have hk := (Kept.refl w20).alloc (.cells #[.bool sT, .slice oT kT cT, .bool tT, .slice pT gT hT] 26)
   have hrt := RRow.alloc w20 (.bool sT) (.slice oT kT cT) (.bool tT) (.slice pT gT hT)
   generalize w20.alloc (.cells #[.bool sT, .slice oT kT cT, .bool tT, .slice pT gT hT] 26) = W at hk hrt ⊢
   clear f900 f901
   obtain ⟨bz0, hb0, hb0'⟩ := pick (HA.out.1.kept hk)
   obtain ⟨bz1, hb1, hb1'⟩ := pick (HA.out.2.1.kept hk)
   have hsz := hk.size
   have HB0 : Hid (wc.heap.size ≤ bz0 ∧ (bz0 < w6.heap.size ∨ W.heap.size ≤ bz0)) := by
    cases hoA : oA with
    | none => have h := hb0.2 hoA; have h2 := HS6.out; have h3 := HW6.out; exact ⟨by omega, .inr h⟩
    | some q => exact blk_in HA.out.1 hoA (fun b e => HBA.out.1 b e) hb0.1
   have HB1 : Hid (wc.heap.size ≤ bz1 ∧ (bz1 < w6.heap.size ∨ W.heap.size ≤ bz1)) := by
    cases hoA : pA with
    | none => have h := hb1.2 hoA; have h2 := HS6.out; have h3 := HW6.out; exact ⟨by omega, .inr h⟩
    | some q => exact blk_in HA.out.2.1 hoA (fun b e => HBA.out.2 b e) hb1.1
   obtain ⟨qa, hqa⟩ : ∃ p, p = w6.heap.size := ⟨_, rfl⟩
   obtain ⟨qe, hqe⟩ : ∃ p, p = w11.heap.size := ⟨_, rfl⟩
   obtain ⟨qt, hqt⟩ : ∃ p, p = w20.heap.size := ⟨_, rfl⟩
   rw [← hqa] at Hra ⊢
   rw [← hqe] at Hre ⊢
   rw [← hqt] at hrt ⊢
   have hlt := hrt.lt
   have HNE : Hid (∀ q, wc.heap.size ≤ q ∧ (q < w6.heap.size ∨ W.heap.size ≤ q) → (p2 ≠ q ∧ p3 ≠ q ∧ p5 ≠ q ∧ p6 ≠ q) ∧ (x1 ≠ q ∧ x2 ≠ q ∧ x3 ≠ q ∧ x4 ≠ q) ∧ (qa ≠ q ∧ qe ≠ q ∧ qt ≠ q) ∧ (q < w10.heap.size ∨ W.heap.size ≤ q) ∧ (q < w19.heap.size ∨ W.heap.size ≤ q) ∧ w.heap.size ≤ q) := fun q hq => by
    have h1 := HOLD.out
    have h2 := HS6.out
    have h3 := HS11.out
    have h4 := HSE.out
    have h5 := HST.out
    have h6 := HWW.out
    have h7 := (Hra.out.kept hk).lt
    have h8 := (Hre.out.kept hk).lt
    refine ⟨⟨?_, ?_, ?_, ?_⟩, ⟨?_, ?_, ?_, ?_⟩, ⟨?_, ?_, ?_⟩, ?_, ?_, ?_⟩ <;> omega
   have HN0 := hid' (HNE.out _ HB0.out)
   have HN1 := hid' (HNE.out _ HB1.out)
   obtain ⟨G, hG⟩ : ∃ G : World → Prop, ∀ V, G V ↔ (Kept w V ∧ V.heap.size = W.heap.size ∧ RRow V p2 (.bool m) (.slice a1 k1 c1) (.bool nA) (.slice a2 k2 c2) ∧ RRow V p3 (.bool n) (.slice b1 k3 c3) (.bool nB) (.slice b2 k4 c4) ∧ RRow V p5 (.bool m) (.slice (some ⟨x1, 0, none⟩) k1 y1) (.bool nA) (.slice (some ⟨x2, 0, none⟩) k2 y2) ∧ RRow V p6 (.bool n) (.slice (some ⟨x3, 0, none⟩) k3 y3) (.bool nB) (.slice (some ⟨x4, 0, none⟩) k4 y4) ∧ RRow V qa (.bool sT) (.slice oA kA cA) (.bool tT) (.slice pA gA hA) ∧ RRow V qe (.bool sT) (.slice oE kE cE) (.bool tT) (.slice pE gE hE) ∧ RRow V qt (.bool sT) (.slice oT kT cT) (.bool tT) (.slice pT gT hT) ∧ Lent w.heap.size V x1 k1 y1 an ∧ Lent w.heap.size V x2 k2 y2 ad ∧ Lent w.heap.size V x3 k3 y3 bn ∧ Lent w.heap.size V x4 k4 y4 bd ∧ New w10.heap.size V (.slice oE kE cE) lT ∧ New w10.heap.size V (.slice pE gE hE) mT ∧ New w19.heap.size V (.slice oT kT cT) lT ∧ New w19.heap.size V (.slice pT gT hT) mT) := ⟨_, fun _ => Iff.rfl⟩
   have HGE := hid' hG
   have HGW : Hid (G W) := (hG W).2 ⟨HK.out.trans hk, rfl, Ha.out.kept hk, Hb.out.kept hk, Hx.out.kept hk, Hy.out.kept hk, Hra.out.kept hk, Hre.out.kept hk, hrt, HX.out.1.kept hk, HX.out.2.1.kept hk, HX.out.2.2.1.kept hk, HX.out.2.2.2.kept hk, HE.out.1.kept hk, HE.out.2.1.kept hk, HT.out.1.kept hk, HT.out.2.1.kept hk⟩
   have HST2 : Hid (∀ q V V', ((p2 ≠ q ∧ p3 ≠ q ∧ p5 ≠ q ∧ p6 ≠ q) ∧ (x1 ≠ q ∧ x2 ≠ q ∧ x3 ≠ q ∧ x4 ≠ q) ∧ (qa ≠ q ∧ qe ≠ q ∧ qt ≠ q) ∧ (q < w10.heap.size ∨ W.heap.size ≤ q) ∧ (q < w19.heap.size ∨ W.heap.size ≤ q) ∧ w.heap.size ≤ q) → G V → KeptK q V V' → V'.heap.size = V.heap.size → G V') := fun q V V' hq g k hs => by
    obtain ⟨g1, g2, g3, g4, g5, g6, g7, g8, g9, g10, g11, g12, g13, g14, g15, g16, g17⟩ := (hG V).1 g
    obtain ⟨⟨e1, e2, e3, e4⟩, ⟨e5, e6, e7, e8⟩, ⟨e9, e10, e11⟩, e12, e13, e14⟩ := hq
    exact (hG V').2 ⟨KeptK.out g1 k e14, by omega, g3.keptK e1 k, g4.keptK e2 k, g5.keptK e3 k, g6.keptK e4 k, g7.keptK e9 k, g8.keptK e10 k, g9.keptK e11 k, Lent.keptB g10 k e5, Lent.keptB g11 k e6, Lent.keptB g12 k e7, Lent.keptB g13 k e8, New.keptB g14 k (by omega), New.keptB g15 k (by omega), New.keptB g16 k (by omega), New.keptB g17 k (by omega)⟩
   have HKL : Hid (kA ≤ 72 ∧ gA ≤ 72) := ⟨by rw [HA.out.1.sl.len]; exact HA.out.2.2.1, by rw [HA.out.2.1.sl.len]; exact HA.out.2.2.2.1⟩
   have HGG : Hid (G W ∧ (0 < kA → oA = some ⟨bz0, 0, none⟩ ∧ kA ≤ cA ∧ ∃ N f, kA ≤ N ∧ W.rowIs bz0 40 N f) ∧ (0 < gA → pA = some ⟨bz1, 0, none⟩ ∧ gA ≤ hA ∧ ∃ N f, gA ≤ N ∧ W.rowIs bz1 40 N f)) := ⟨HGW.out, fun h => by obtain ⟨h1, N, f, h2, h3, h4⟩ := hb0' h; exact ⟨h1, h2, N, f, h3, h4⟩, fun h => by obtain ⟨h1, N, f, h2, h3, h4⟩ := hb1' h; exact ⟨h1, h2, N, f, h3, h4⟩⟩
   clear hb0 hb0' hb1 hb1' hsz hqa hqe hqt hlt hG hk hrt HA HE Hra Hre HGW
   obtain ⟨hh0, hh1⟩ := And.intro HKL.out.1 HKL.out.2
   go_loopw [169] (fun vi wr => ∃ j : Nat, j ≤ kA ∧ vi = .int .i64 (j : Int) ∧ Hid (G wr ∧ (0 < kA → oA = some ⟨bz0, 0, none⟩ ∧ kA ≤ cA ∧ ∃ N f, kA ≤ N ∧ wr.rowIs bz0 40 N f) ∧ (0 < gA → pA = some ⟨bz1, 0, none⟩ ∧ gA ≤ hA ∧ ∃ N f, gA ≤ N ∧ wr.rowIs bz1 40 N f))) (fun vi _ => kA - (intOf vi).toNat)
   case atStart => exact ⟨0, Nat.zero_le _, rfl, HGG.out⟩
   case round =>
    obtain ⟨j, hj, rfl, HI⟩ := hrel
    have hrow := (HGE.out _).1 HI.out.1
    by_cases hlt : j < kA
    ·
     have hx := HI.out.2.1 (by omega)
     obtain ⟨hoo, hcap, N, f, hN, hr⟩ := hx
     have f0 := hrow.2.2.2.2.2.2.1.c1
     have f1 := hrow.2.2.2.2.2.2.1.c3
     have f2 := hr.cell (show j < N by omega)
     have f3 := hr.frozen j
     rw [hoo] at f0
     have HR := hid' hr
     clear hrow hr
     go_wp2_with fail
     go_roundw
     case rel =>
      refine ⟨j + 1, by omega, by go_num, HST2.out _ _ _ HN0.out HI.out.1 ((KeptK.refl bz0 wr).setK j _) (by rw [World.size_setCell]), fun h => ?_, fun h => ?_⟩
      ·
       obtain ⟨e1, e2, N', f', h1, h2⟩ := HI.out.2.1 h
       obtain ⟨f'', h3⟩ := row_set (b' := bz0) h2 j (.int .u32 7)
       exact ⟨e1, e2, N', f'', h1, h3⟩
      ·
       obtain ⟨e1, e2, N', f', h1, h2⟩ := HI.out.2.2 h
       obtain ⟨f'', h3⟩ := row_set (b' := bz0) h2 j (.int .u32 7)
       exact ⟨e1, e2, N', f'', h1, h3⟩
     case measure => simp [intOf]; omega
    ·
     have HGG := hid' HI.out
     have f0 := hrow.2.2.2.2.2.2.1.c1
     have f1 := hrow.2.2.2.2.2.2.1.c3
     clear hrow
     go_upto_region 25 with fail
     clear f0 f1
     obtain ⟨hh0, hh1⟩ := And.intro HKL.out.1 HKL.out.2
     go_loopw [182] (fun vi wr => ∃ j : Nat, j ≤ gA ∧ vi = .int .i64 (j : Int) ∧ Hid (G wr ∧ (0 < kA → oA = some ⟨bz0, 0, none⟩ ∧ kA ≤ cA ∧ ∃ N f, kA ≤ N ∧ wr.rowIs bz0 40 N f) ∧ (0 < gA → pA = some ⟨bz1, 0, none⟩ ∧ gA ≤ hA ∧ ∃ N f, gA ≤ N ∧ wr.rowIs bz1 40 N f))) (fun vi _ => gA - (intOf vi).toNat)
     case atStart => exact ⟨0, Nat.zero_le _, rfl, HGG.out⟩
     case round =>
      obtain ⟨j, hj, rfl, HI⟩ := hrel
      have hrow := (HGE.out _).1 HI.out.1
      by_cases hlt : j < gA
      ·
       have hx := HI.out.2.2 (by omega)
       obtain ⟨hoo, hcap, N, f, hN, hr⟩ := hx
       have f0 := hrow.2.2.2.2.2.2.1.c1
       have f1 := hrow.2.2.2.2.2.2.1.c3
       have f2 := hr.cell (show j < N by omega)
       have f3 := hr.frozen j
       rw [hoo] at f1
       have HR := hid' hr
       clear hrow hr
       go_wp2_with fail
       go_roundw
       case rel =>
        refine ⟨j + 1, by omega, by go_num, HST2.out _ _ _ HN1.out HI.out.1 ((KeptK.refl bz1 wr).setK j _) (by rw [World.size_setCell]), fun h => ?_, fun h => ?_⟩
        ·
         obtain ⟨e1, e2, N', f', h1, h2⟩ := HI.out.2.1 h
         obtain ⟨f'', h3⟩ := row_set (b' := bz1) h2 j (.int .u32 8)
         exact ⟨e1, e2, N', f'', h1, h3⟩
        ·
         obtain ⟨e1, e2, N', f', h1, h2⟩ := HI.out.2.2 h
         obtain ⟨f'', h3⟩ := row_set (b' := bz1) h2 j (.int .u32 8)
         exact ⟨e1, e2, N', f'', h1, h3⟩
       case measure => simp [intOf]; omega
      ·
       have HGF := hid' ((HGE.out _).1 HI.out.1)
       have HK29 := hid' HGF.out.1
       obtain ⟨g0, g1, g2, g3⟩ := rrow_all HGF.out.2.2.1
       obtain ⟨g4, g5, g6, g7⟩ := rrow_all HGF.out.2.2.2.1
       obtain ⟨g8, g9, g10, g11⟩ := rrow_all HGF.out.2.2.2.2.1
       obtain ⟨g12, g13, g14, g15⟩ := rrow_all HGF.out.2.2.2.2.2.1
       obtain ⟨h0, h1, h2, h3⟩ := rrow_all HGF.out.2.2.2.2.2.2.2.1
       obtain ⟨h4, h5, h6, h7⟩ := rrow_all HGF.out.2.2.2.2.2.2.2.2.1
       clear hrow
       go_wp2_with fail
       have HQ := hid' (And.intro HGF.out.2.2.2.2.2.2.2.2.2 (And.intro HT.out.2.2.1 HT.out.2.2.2.1))
       refine (lsame_r sT tT _ _ _ _ lT mT _ HQ.out.1.2.2.2.2.2.2.1.sl HQ.out.1.2.2.2.2.2.2.2.sl HQ.out.1.2.2.2.2.1.sl HQ.out.1.2.2.2.2.2.1.sl (by have := HQ.out.2; omega) (by have := HQ.out.2; omega)).mono ?_
       rintro e u1 ⟨rfl, hk⟩
       have HK1 := hid' hk
       clear hk g0 g1 g2 g3 g4 g5 g6 g7 g8 g9 g10 g11 g12 g13 g14 g15 h0 h1 h2 h3 h4 h5 h6 h7
       obtain ⟨g0, g1, g2, g3⟩ := rrow_all (HGF.out.2.2.1.kept HK1.out)
       obtain ⟨g8, g9, g10, g11⟩ := rrow_all (HGF.out.2.2.2.2.1.kept HK1.out)
       go_wp2_with fail
       refine (rwhole_any m nA x1 x2 y1 y2 a1 a2 k1 c1 k2 c2 an ad _ (HQ.out.1.1.kept HK1.out) (HQ.out.1.2.1.kept HK1.out) (HG.out.1.kept (HK29.out.trans HK1.out)) (HG.out.2.1.kept (HK29.out.trans HK1.out)) HL.out.1 HL.out.2.1).mono ?_
       rintro e u2 ⟨rfl, hk⟩
       have HK2' := hid' (HK1.out.trans hk)
       clear hk g0 g1 g2 g3 g8 g9 g10 g11
       obtain ⟨g4, g5, g6, g7⟩ := rrow_all (HGF.out.2.2.2.1.kept HK2'.out)
       obtain ⟨g12, g13, g14, g15⟩ := rrow_all (HGF.out.2.2.2.2.2.1.kept HK2'.out)
       go_wp2_with fail
       refine (rwhole_any n nB x3 x4 y3 y4 b1 b2 k3 c3 k4 c4 bn bd _ (HQ.out.1.2.2.1.kept HK2'.out) (HQ.out.1.2.2.2.1.kept HK2'.out) (HG.out.2.2.1.kept (HK29.out.trans HK2'.out)) (HG.out.2.2.2.kept (HK29.out.trans HK2'.out)) HL.out.2.2.1 HL.out.2.2.2).mono ?_
       rintro e u3 ⟨rfl, hk⟩
       have HK3' := hid' (HK29.out.trans (HK2'.out.trans hk))
       clear hk g4 g5 g6 g7 g12 g13 g14 g15
       go_wp2
       go_ret
       exact ⟨rfl, HK3'.out⟩
end F
end Go.Proofs.YtblpacgfgifkcaaGreat

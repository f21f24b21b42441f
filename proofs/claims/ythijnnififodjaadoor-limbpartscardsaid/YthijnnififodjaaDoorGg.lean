/- Common of shuntref01: the greatest common divisor, by Euclid. Divide and Common of shuntref01, told as whole numbers. -/
import Derived.Test.YthijnnififodjaaDoorGf
namespace Go.Proofs.YthijnnififodjaaDoor.D
open Go.RowKit

/-- Digits that read as l and, where there are any, lie in no block from B up to C. -/
def Off (B C : Nat) (w : World) (v : Value) (l : List Nat) : Prop := Sl w v l ∧ (0 < l.length → ∃ b off n cap, v = .slice (some ⟨b, off, none⟩) n cap ∧ (b < B ∨ C ≤ b))

theorem Off.kept {B C : Nat} {w w' : World} {v : Value} {l : List Nat} (h : Off B C w v l) (k : Kept w w') : Off B C w' v l := ⟨h.1.kept k, h.2⟩

theorem Off.other {B C : Nat} {w : World} {v : Value} {l : List Nat} (h : Off B C w v l) {p : Addr} (h1 : B ≤ p.block) (h2 : p.block < C) (u : Value) : Off B C (w.setCell p u) v l := by
  refine ⟨?_, h.2⟩
  obtain ⟨⟨hb, ao, cap, rfl, hx⟩, h3⟩ := h
  refine ⟨hb, ao, cap, rfl, fun h0 => ?_⟩
  obtain ⟨h4, b, off, rfl, hlt, hc⟩ := hx h0
  refine ⟨h4, b, off, rfl, by simpa using hlt, fun j hj => ?_⟩
  obtain ⟨b', o', n', c', e, hB⟩ := h3 h0
  simp only [Value.slice.injEq, Option.some.injEq, Addr.mk.injEq] at e
  obtain ⟨⟨rfl, _, _⟩, _, _⟩ := e
  rw [World.cell?_setCell_other _ _ _ _ (by intro e; rw [e] at h1 h2; simp at h1 h2; omega)]
  exact hc j hj

theorem NewE.off {B C D' : Nat} {w : World} {v : Value} {l : List Nat} (h : NewE D' w v l) (hC : C ≤ D') : Off B C w v l := ⟨h.1, fun h0 => by
  obtain ⟨b, n, cap, e, hb⟩ := h.2 h0
  exact ⟨b, 0, n, cap, e, .inr (by omega)⟩⟩

theorem Sl.off {C : Nat} {w : World} {v : Value} {l : List Nat} (h : Sl w v l) : Off w.heap.size C w v l := ⟨h, fun h0 => by
  obtain ⟨_, ao, cap, rfl, hx⟩ := h
  obtain ⟨_, b, off, rfl, hlt, _⟩ := hx h0
  exact ⟨b, off, _, cap, rfl, .inl hlt⟩⟩

/-- What digits tell, read off the world. -/
def rdv (w : World) : Value → Nat
  | .slice (some a) n _ => D.val ((List.range n).map (fun j => match w.cell? ⟨a.block, a.off + j, none⟩ with | some (.int _ x) => x.toNat | _ => 0))
  | _ => 0

theorem rdv_of {w : World} {v : Value} {l : List Nat} (h : Sl w v l) : rdv w v = D.val l := by
  obtain ⟨hb, ao, cap, rfl, hx⟩ := h
  cases ao with
  | none =>
    by_cases h0 : 0 < l.length
    · obtain ⟨_, b, off, e, _⟩ := hx h0
      cases e
    · have h1 : l = [] := List.length_eq_zero_iff.1 (by omega)
      subst h1; rfl
  | some ad =>
    by_cases h0 : 0 < l.length
    · obtain ⟨_, b, off, e, _, hc⟩ := hx h0
      cases e
      show D.val ((List.range l.length).map (fun j => match w.cell? ⟨b, off + j, none⟩ with | some (.int _ x) => x.toNat | _ => 0)) = D.val l
      congr 1
      apply List.ext_getElem (by simp)
      intro j h1 h2
      simp only [List.getElem_map, List.getElem_range]
      rw [hc j h2]
      simp [List.getD_eq_getElem?_getD, List.getElem?_eq_getElem h2]
    · have h1 : l = [] := List.length_eq_zero_iff.1 (by omega)
      subst h1; rfl

/-- What the cell b, 1 tells. -/
def rdc (w : World) (b : Nat) : Nat := match w.cell? ⟨b, 1, none⟩ with | some v => rdv w v | none => 0

theorem rdc_of {w : World} {b : Nat} {v : Value} {l : List Nat} (hc : w.cell? ⟨b, 1, none⟩ = some v) (h : Sl w v l) : rdc w b = D.val l := by
  unfold rdc; rw [hc]; exact rdv_of h

/-- Two boxes, both stored anew. -/
theorem pair_set {w : World} {A B : Nat} {c0 c1 d0 d1 e0 e1 f0 f1 : Value} (hne : A ≠ B) (h0 : w.cell? ⟨A, 0, none⟩ = some c0) (h1 : w.cell? ⟨A, 1, none⟩ = some c1) (g0 : w.cell? ⟨B, 0, none⟩ = some d0) (g1 : w.cell? ⟨B, 1, none⟩ = some d1) :
    ((((w.setCell ⟨A, 0, none⟩ e0).setCell ⟨A, 1, none⟩ e1).setCell ⟨B, 0, none⟩ f0).setCell ⟨B, 1, none⟩ f1).cell? ⟨A, 0, none⟩ = some e0 ∧
    ((((w.setCell ⟨A, 0, none⟩ e0).setCell ⟨A, 1, none⟩ e1).setCell ⟨B, 0, none⟩ f0).setCell ⟨B, 1, none⟩ f1).cell? ⟨A, 1, none⟩ = some e1 ∧
    ((((w.setCell ⟨A, 0, none⟩ e0).setCell ⟨A, 1, none⟩ e1).setCell ⟨B, 0, none⟩ f0).setCell ⟨B, 1, none⟩ f1).cell? ⟨B, 0, none⟩ = some f0 ∧
    ((((w.setCell ⟨A, 0, none⟩ e0).setCell ⟨A, 1, none⟩ e1).setCell ⟨B, 0, none⟩ f0).setCell ⟨B, 1, none⟩ f1).cell? ⟨B, 1, none⟩ = some f1 ∧
    (∀ b o, b ≠ A → b ≠ B → ((((w.setCell ⟨A, 0, none⟩ e0).setCell ⟨A, 1, none⟩ e1).setCell ⟨B, 0, none⟩ f0).setCell ⟨B, 1, none⟩ f1).cell? ⟨b, o, none⟩ = w.cell? ⟨b, o, none⟩) := by
  have n1 : ∀ i j, (⟨B, i, none⟩ : Addr) ≠ ⟨A, j, none⟩ := fun i j e => hne (congrArg Addr.block e).symm
  have n2 : ∀ X : Nat, (⟨X, 1, none⟩ : Addr) ≠ ⟨X, 0, none⟩ := fun X e => by simp at e
  have n3 : ∀ X : Nat, (⟨X, 0, none⟩ : Addr) ≠ ⟨X, 1, none⟩ := fun X e => by simp at e
  have n4 : ∀ i j, (⟨A, i, none⟩ : Addr) ≠ ⟨B, j, none⟩ := fun i j e => hne (congrArg Addr.block e)
  refine ⟨?_, ?_, ?_, ?_, fun b o hA hB => ?_⟩
  · rw [World.cell?_setCell_other _ _ _ _ (n1 1 0), World.cell?_setCell_other _ _ _ _ (n1 0 0), World.cell?_setCell_other _ _ _ _ (n2 A)]
    exact World.cell?_setCell_same _ _ _ h0
  · rw [World.cell?_setCell_other _ _ _ _ (n1 1 1), World.cell?_setCell_other _ _ _ _ (n1 0 1)]
    exact World.cell?_setCell_same _ _ _ ((World.cell?_setCell_other _ _ _ _ (n3 A)).trans h1)
  · rw [World.cell?_setCell_other _ _ _ _ (n2 B)]
    exact World.cell?_setCell_same _ _ _ (((World.cell?_setCell_other _ _ _ _ (n4 1 0)).trans (World.cell?_setCell_other _ _ _ _ (n4 0 0))).trans g0)
  · exact World.cell?_setCell_same _ _ _ ((((World.cell?_setCell_other _ _ _ _ (n3 B)).trans (World.cell?_setCell_other _ _ _ _ (n4 1 1))).trans (World.cell?_setCell_other _ _ _ _ (n4 0 1))).trans g1)
  · have m1 : ∀ i, (⟨A, i, none⟩ : Addr) ≠ ⟨b, o, none⟩ := fun i e => hA (congrArg Addr.block e).symm
    have m2 : ∀ i, (⟨B, i, none⟩ : Addr) ≠ ⟨b, o, none⟩ := fun i e => hB (congrArg Addr.block e).symm
    rw [World.cell?_setCell_other _ _ _ _ (m2 1), World.cell?_setCell_other _ _ _ _ (m2 0), World.cell?_setCell_other _ _ _ _ (m1 1), World.cell?_setCell_other _ _ _ _ (m1 0)]

theorem Off.pair {w : World} {v : Value} {l : List Nat} {B C : Nat} {e0 e1 f0 f1 : Value} (h : Off B C w v l) {x y : Nat} (hx : B ≤ x ∧ x < C) (hy : B ≤ y ∧ y < C) : Off B C ((((w.setCell ⟨x, 0, none⟩ e0).setCell ⟨x, 1, none⟩ e1).setCell ⟨y, 0, none⟩ f0).setCell ⟨y, 1, none⟩ f1) v l :=
  (((h.other hx.1 hx.2 _).other hx.1 hx.2 _).other hy.1 hy.2 _).other hy.1 hy.2 _

set_option maxHeartbeats 1000000 in
theorem Abs_any (m : Bool) (ao : Option Addr) (n cap : Nat) (w : World) :
    Calls Tryd.prog 56 #[.agg #[.bool m, .slice ao n cap]] w fun e w' => e = .returned (.agg #[.bool false, .slice ao n cap]) ∧ Kept w w' := by
  go_enter Tryd.func56, Tryd.ntmps56
  go_wp2
  exact bodyPost_ret (v := .agg #[.bool false, .slice ao n cap]) (by simp [results, Tryd.results56, go_sem]) rfl ⟨rfl, ((Kept.refl w).alloc _).alloc _⟩

set_option maxRecDepth 100000 in
set_option maxHeartbeats 4000000 in
theorem Common_raw (m n : Bool) (aoa aob : Option Addr) (capa capb : Nat) (a b : List Nat) (w : World) (ha : Sl w (.slice aoa a.length capa) a) (hb : Sl w (.slice aob b.length capb) b) (hla : a.length ≤ 1000) (hlb : b.length ≤ 1000) (ta : D.Tr a) (tb : D.Tr b) :
    Calls Tryd.prog 32 #[.agg #[.bool m, .slice aoa a.length capa], .agg #[.bool n, .slice aob b.length capb]] w fun e w' => Kept w w' ∧ ∃ ao k cap l, e = .returned (.agg #[.bool false, .slice ao k cap]) ∧ Sl w' (.slice ao k cap) l ∧ D.Tr l ∧ D.val l = Nat.gcd (D.val a) (D.val b) := by
  have HA : Hid (Off w.heap.size (w.heap.size + 1 + 1 + 1) w (.slice aoa a.length capa) a ∧ D.Tr a) := ⟨ha.off, ta⟩
  have HB : Hid (Off w.heap.size (w.heap.size + 1 + 1 + 1) w (.slice aob b.length capb) b ∧ D.Tr b) := ⟨hb.off, tb⟩
  obtain ⟨ka, hka⟩ : ∃ ka, ka = a.length := ⟨_, rfl⟩
  obtain ⟨kb, hkb⟩ : ∃ kb, kb = b.length := ⟨_, rfl⟩
  rw [← hka, ← hkb]
  rw [← hka] at HA hla
  rw [← hkb] at HB hlb
  have HL : Hid (ka = a.length ∧ kb = b.length) := ⟨hka, hkb⟩
  obtain ⟨g, hg⟩ : ∃ g, g = Nat.gcd (D.val a) (D.val b) := ⟨_, rfl⟩
  have HG : Hid (g = Nat.gcd (D.val a) (D.val b)) := hg
  rw [← hg]
  clear ha hb tb ta hka hkb hg
  have K3 : ∀ x y t, Kept w (((w.alloc x).alloc y).alloc t) := fun x y t => (((Kept.refl w).alloc x).alloc y).alloc t
  have HK3 : Hid (∀ W, Kept (((w.alloc (.cells #[.bool m, .slice aoa ka capa] 50)).alloc (.cells #[.bool n, .slice aob kb capb] 50)).alloc (.cells #[.bool false, .slice none 0 0] 50)) W → W.cell? ⟨w.heap.size, 0, none⟩ = some (.bool m) ∧ W.cell? ⟨w.heap.size, 1, none⟩ = some (.slice aoa ka capa) ∧ W.cell? ⟨w.heap.size + 1, 0, none⟩ = some (.bool n) ∧ W.cell? ⟨w.heap.size + 1, 1, none⟩ = some (.slice aob kb capb) ∧ W.cell? ⟨w.heap.size + 1 + 1, 0, none⟩ = some (.bool false) ∧ W.cell? ⟨w.heap.size + 1 + 1, 1, none⟩ = some (.slice none 0 0)) := fun W h => box_kept3 h
  go_enter Tryd.func32, Tryd.ntmps32
  go_wp2_with fail
  go_region_with (first
    | (go_at_call_of 56 (Value.slice aoa ka capa); refine (Abs_any m aoa ka capa _).mono ?_; rintro e w1 ⟨rfl, hk1⟩; obtain ⟨hA0, hA1, hB0, hB1, hC0, hC1⟩ := HK3.out _ ((Kept.refl _).drew.trans hk1))
    | (go_at_call_of 56 (Value.slice aob kb capb); refine (Abs_any n aob kb capb _).mono ?_; rintro e w2 ⟨rfl, hk2⟩; obtain ⟨hA0', hA1', hB0', hB1', hC0', hC1'⟩ := HK3.out _ (((Kept.refl _).drew.trans hk1).trans hk2); have hf := (((Kept.refl _).drew.trans hk1).trans hk2).frozens))
  all_goals
    have hps := pair_set (e0 := .bool false) (e1 := .slice aoa ka capa) (f0 := .bool false) (f1 := .slice aob kb capb) (by omega : w.heap.size ≠ w.heap.size + 1) hA0' hA1' hB0' hB1'
    have hfz : ∀ x o, w.heap.size ≤ x → x < w.heap.size + 1 + 1 + 1 → w2.frozen? ⟨x, o, none⟩ = false := fun x o h1 h2 => by
      rw [hf x o (by simp; omega)]
      rcases (by omega : x = w.heap.size ∨ x = w.heap.size + 1 ∨ x = w.heap.size + 1 + 1) with rfl | rfl | rfl
      · exact (World.frozen?_alloc_past _ _ _ (by simp; omega)).trans ((World.frozen?_alloc_past _ _ _ (by simp)).trans (World.frozen?_alloc_at _ _ _ _ rfl))
      · exact (World.frozen?_alloc_past _ _ _ (by simp)).trans (World.frozen?_alloc_at _ _ _ _ (by simp))
      · exact World.frozen?_alloc_at _ _ _ _ (by simp)
    have hKw2 : Kept w w2 := ((K3 _ _ _).drew.trans hk1).trans hk2
    obtain ⟨w3, hw3⟩ : ∃ w3, w3 = (((w2.setCell ⟨w.heap.size, 0, none⟩ (.bool false)).setCell ⟨w.heap.size, 1, none⟩ (.slice aoa ka capa)).setCell ⟨w.heap.size + 1, 0, none⟩ (.bool false)).setCell ⟨w.heap.size + 1, 1, none⟩ (.slice aob kb capb) := ⟨_, rfl⟩
    have hfz3 : ∀ x o, w.heap.size ≤ x → x < w.heap.size + 1 + 1 + 1 → w3.frozen? ⟨x, o, none⟩ = false := fun x o h1 h2 => by
      rw [hw3]; simp only [World.frozen?_setCell]; exact hfz x o h1 h2
    have hK3' : Kept w w3 := by
      rw [hw3]; exact (((hKw2.setCell (Nat.le_refl _) _).setCell (Nat.le_refl _) _).setCell (Nat.le_succ _) _).setCell (Nat.le_succ _) _
    have hsz3 : w.heap.size + 1 + 1 + 1 ≤ w3.heap.size := by
      have h1 := (hk1.trans hk2).size
      simp at h1
      rw [hw3]; simpa using h1
    have hOa : Off w.heap.size (w.heap.size + 1 + 1 + 1) w3 (.slice aoa ka capa) a := by rw [hw3]; exact (HA.out.1.kept hKw2).pair (by omega) (by omega)
    have hOb : Off w.heap.size (w.heap.size + 1 + 1 + 1) w3 (.slice aob kb capb) b := by rw [hw3]; exact (HB.out.1.kept hKw2).pair (by omega) (by omega)
    have hcc : w3.cell? ⟨w.heap.size + 1 + 1, 0, none⟩ = some (.bool false) ∧ w3.cell? ⟨w.heap.size + 1 + 1, 1, none⟩ = some (.slice none 0 0) := by
      rw [hw3]; exact ⟨(hps.2.2.2.2 _ _ (by omega) (by omega)).trans hC0', (hps.2.2.2.2 _ _ (by omega) (by omega)).trans hC1'⟩
    rw [← hw3] at hps ⊢
    have H3 : Hid (w3.cell? ⟨w.heap.size, 0, none⟩ = some (.bool false) ∧ w3.cell? ⟨w.heap.size, 1, none⟩ = some (.slice aoa ka capa) ∧ w3.cell? ⟨w.heap.size + 1, 0, none⟩ = some (.bool false) ∧ w3.cell? ⟨w.heap.size + 1, 1, none⟩ = some (.slice aob kb capb) ∧ (w3.cell? ⟨w.heap.size + 1 + 1, 0, none⟩ = some (.bool false) ∧ w3.cell? ⟨w.heap.size + 1 + 1, 1, none⟩ = some (.slice none 0 0)) ∧ (∀ x o, w.heap.size ≤ x → x < w.heap.size + 1 + 1 + 1 → w3.frozen? ⟨x, o, none⟩ = false) ∧ Kept w w3 ∧ w.heap.size + 1 + 1 + 1 ≤ w3.heap.size ∧ Off w.heap.size (w.heap.size + 1 + 1 + 1) w3 (.slice aoa ka capa) a ∧ Off w.heap.size (w.heap.size + 1 + 1 + 1) w3 (.slice aob kb capb) b) := ⟨hps.1, hps.2.1, hps.2.2.1, hps.2.2.2.1, hcc, hfz3, hK3', hsz3, hOa, hOb⟩
    clear hps hfz hKw2 hfz3 hK3' hsz3 hOa hOb hcc hw3 hf hk1 hk2 hA0' hA1' hB0' hB1' hC0' hC1' hA0 hA1 hB0 hB1 hC0 hC1 HK3 K3
    go_wp2
    go_loopw [14] (fun _ wr => ∃ (x y : List Nat) (aox aoy : Option Addr) (kx ky capx capy : Nat), kx ≤ 1000 ∧ ky ≤ 1000 ∧
        wr.cell? ⟨w.heap.size, 0, none⟩ = some (.bool false) ∧ wr.cell? ⟨w.heap.size, 1, none⟩ = some (.slice aox kx capx) ∧ wr.cell? ⟨w.heap.size + 1, 0, none⟩ = some (.bool false) ∧ wr.cell? ⟨w.heap.size + 1, 1, none⟩ = some (.slice aoy ky capy) ∧
        wr.cell? ⟨w.heap.size + 1 + 1, 0, none⟩ = some (.bool false) ∧ wr.cell? ⟨w.heap.size + 1 + 1, 1, none⟩ = some (.slice none 0 0) ∧
        Hid (∀ x o, w.heap.size ≤ x → x < w.heap.size + 1 + 1 + 1 → wr.frozen? ⟨x, o, none⟩ = false) ∧ Hid (Kept w wr ∧ w.heap.size + 1 + 1 + 1 ≤ wr.heap.size) ∧
        Hid (kx = x.length ∧ ky = y.length ∧ Off w.heap.size (w.heap.size + 1 + 1 + 1) wr (.slice aox kx capx) x ∧ Off w.heap.size (w.heap.size + 1 + 1 + 1) wr (.slice aoy ky capy) y ∧ D.Tr x ∧ D.Tr y ∧ g = Nat.gcd (D.val x) (D.val y))) (fun _ wr => rdc wr (w.heap.size + 1))
    case atStart =>
      obtain ⟨c1, c2, c3, c4, c5, c6, c7, c8, c9, c10⟩ := H3.out
      exact ⟨a, b, aoa, aob, ka, kb, capa, capb, hla, hlb, c1, c2, c3, c4, c5.1, c5.2, c6, ⟨c7, c8⟩, HL.out.1, HL.out.2, c9, c10, HA.out.2, HB.out.2, HG.out⟩
    case round =>
      obtain ⟨x, y, aox, aoy, kx, ky, capx, capy, hkx, hky, hA0, hA1, hB0, hB1, hC0, hC1, hfz, hkk, hr⟩ := hrel
      by_cases h0 : ky = 0
      · subst h0
        have HF : Hid (Kept w wr ∧ Off w.heap.size (w.heap.size + 1 + 1 + 1) wr (.slice aox kx capx) x ∧ D.Tr x ∧ D.val x = g) := by
          obtain ⟨e1, e2, hOx, hOy, tx, ty, hg⟩ := hr.out
          have : y = [] := List.length_eq_zero_iff.1 e2.symm
          subst this
          exact ⟨hkk.out.1, hOx, tx, by rw [hg]; simp [D.val]⟩
        have hf0 := hfz.out (w.heap.size + 1 + 1) 0 (by omega) (by omega)
        have hf1 := hfz.out (w.heap.size + 1 + 1) 1 (by omega) (by omega)
        clear hr
        go_wp2
        refine bodyPost_ret (v := .agg #[.bool false, .slice aox kx capx]) (by simp [results, Tryd.results32, go_sem, hC0, hC1]) rfl ⟨?_, aox, kx, capx, x, rfl, ?_, HF.out.2.2⟩
        · exact (HF.out.1.setCell (by simp; omega) _).setCell (by simp; omega) _
        · exact ((HF.out.2.1.other (by simp; omega) (by simp) _).other (by simp; omega) (by simp) _).1
      · have h1 : (0 : Int) < (ky : Int) := by omega
        have hy0 : 0 < D.val y := D.val_pos hr.out.2.2.2.2.2.1 (fun e => by have := hr.out.2.1; rw [e] at this; simp at this; omega)
        have hD := Divide_raw false false aox aoy capx capy x y wr (by have h9 := hr.out.2.2.1.1; rw [hr.out.1] at h9; exact h9) (by have h9 := hr.out.2.2.2.1.1; rw [hr.out.2.1] at h9; exact h9) (by rw [← hr.out.1]; exact hkx) (by rw [← hr.out.2.1]; exact hky) hr.out.2.2.2.2.2.1 hy0
        rw [← hr.out.1, ← hr.out.2.1] at hD
        have HD : Hid (Calls Tryd.prog 25 #[.agg #[.bool false, .slice aox kx capx], .agg #[.bool false, .slice aoy ky capy]] wr fun e w' => Kept wr w' ∧ DivRes wr.heap.size w' e false false x y) := hD
        clear hD
        go_wp2_with fail
        refine HD.out.mono ?_
        rintro e w4 ⟨hk4, s4, aq, kq, cq, q, t4, ar, kr, cr, r, rfl, hNq, hNr, hRq, hRr, hval, hlt, hiq, hir⟩
        have ht4 : t4 = false := by
          by_cases hr0 : r = []
          · exact hRr.zero hr0
          · have := D.val_pos hRr.tr hr0
            unfold int at hir
            cases t4
            · rfl
            · simp at hir; omega
        subst ht4
        have e4 : kr = r.length := by obtain ⟨_, _, _, he, _⟩ := hNr.1; simp only [Value.slice.injEq] at he; exact he.2.1
        have hkr : kr ≤ 1000 := by
          have h9 := D.len_le_of_val_le hRr.tr hr.out.2.2.2.1.1.bd (Nat.le_of_lt hlt)
          have h8 := hr.out.2.1
          omega
        have hA0 := cell_kept hk4 hA0
        have hA1 := cell_kept hk4 hA1
        have hB0 := cell_kept hk4 hB0
        have hB1 := cell_kept hk4 hB1
        have hC0 := cell_kept hk4 hC0
        have hC1 := cell_kept hk4 hC1
        have hfz4 : ∀ x o, w.heap.size ≤ x → x < w.heap.size + 1 + 1 + 1 → w4.frozen? ⟨x, o, none⟩ = false := fun x o h1 h2 => by
          rw [hk4.frozens x o (by have := hkk.out.2; omega)]; exact hfz.out x o h1 h2
        have hsz := hk4.size
        have hsz2 : w.heap.size + 1 + 1 < w4.heap.size := by have := hkk.out.2; omega
        have hsz3 : w.heap.size + 1 < w4.heap.size := by omega
        have hsz4 : w.heap.size < w4.heap.size := by omega
        have hsz5 : w.heap.size + 1 < w4.heap.size + 1 := by omega
        have hsz6 : w.heap.size < w4.heap.size + 1 := by omega
        have H4 : Hid (Kept w w4 ∧ ky = y.length ∧ Off w.heap.size (w.heap.size + 1 + 1 + 1) w4 (.slice aoy ky capy) y ∧ NewE wr.heap.size w4 (.slice ar kr cr) r ∧ D.Tr y ∧ D.Tr r ∧ D.val r < D.val y ∧ g = Nat.gcd (D.val y) (D.val r) ∧ kr = r.length ∧ rdc wr (w.heap.size + 1) = D.val y) := by
          obtain ⟨e1, e2, hOx, hOy, tx, ty, hg⟩ := hr.out
          refine ⟨hkk.out.1.trans hk4, e2, hOy.kept hk4, hNr, ty, hRr.tr, hlt, ?_, e4, rdc_of ‹_› hOy.1⟩
          rw [hg, Nat.gcd_comm, Nat.gcd_rec, hval, Nat.mul_comm, Nat.mul_add_mod, Nat.mod_eq_of_lt hlt, Nat.gcd_comm]
        have HFZ : Hid (∀ x o, w.heap.size ≤ x → x < w.heap.size + 1 + 1 + 1 → w4.frozen? ⟨x, o, none⟩ = false) := hfz4
        have hf0 := hfz4 w.heap.size 0 (by omega) (by omega)
        have hf1 := hfz4 w.heap.size 1 (by omega) (by omega)
        have hf2 := hfz4 (w.heap.size + 1) 0 (by omega) (by omega)
        have hf3 := hfz4 (w.heap.size + 1) 1 (by omega) (by omega)
        clear hk4 hNq hNr hRq hRr hval hlt hiq hir hfz4 HD hr hfz e4
        go_wp2
        go_region
        all_goals
          obtain ⟨p0, p1, p2, p3, p4⟩ := pair_set (e0 := .bool false) (e1 := .slice aoy ky capy) (f0 := .bool false) (f1 := .slice ar kr cr) (by omega : w.heap.size ≠ w.heap.size + 1) hA0 hA1 hB0 hB1
          have pc0 := (p4 (w.heap.size + 1 + 1) 0 (by omega) (by omega)).trans hC0
          have pc1 := (p4 (w.heap.size + 1 + 1) 1 (by omega) (by omega)).trans hC1
          obtain ⟨w5, hw5⟩ : ∃ w5, w5 = (((w4.setCell ⟨w.heap.size, 0, none⟩ (.bool false)).setCell ⟨w.heap.size, 1, none⟩ (.slice aoy ky capy)).setCell ⟨w.heap.size + 1, 0, none⟩ (.bool false)).setCell ⟨w.heap.size + 1, 1, none⟩ (.slice ar kr cr) := ⟨_, rfl⟩
          have hOy : Off w.heap.size (w.heap.size + 1 + 1 + 1) w5 (.slice aoy ky capy) y := by rw [hw5]; exact H4.out.2.2.1.pair (by omega) (by omega)
          have hOr : Off w.heap.size (w.heap.size + 1 + 1 + 1) w5 (.slice ar kr cr) r := by rw [hw5]; exact (H4.out.2.2.2.1.off hkk.out.2).pair (by omega) (by omega)
          have hK5 : Kept w w5 := by rw [hw5]; exact (((H4.out.1.setCell (Nat.le_refl _) _).setCell (Nat.le_refl _) _).setCell (Nat.le_succ _) _).setCell (Nat.le_succ _) _
          have hs5 : w.heap.size + 1 + 1 + 1 ≤ w5.heap.size := by rw [hw5]; simp; omega
          have hf5 : ∀ x o, w.heap.size ≤ x → x < w.heap.size + 1 + 1 + 1 → w5.frozen? ⟨x, o, none⟩ = false := fun x o h1 h2 => by rw [hw5]; simp only [World.frozen?_setCell]; exact HFZ.out x o h1 h2
          rw [← hw5] at p0 p1 p2 p3 pc0 pc1 ⊢
          have H5 : Hid (w5.cell? ⟨w.heap.size, 0, none⟩ = some (.bool false) ∧ w5.cell? ⟨w.heap.size, 1, none⟩ = some (.slice aoy ky capy) ∧ w5.cell? ⟨w.heap.size + 1, 0, none⟩ = some (.bool false) ∧ w5.cell? ⟨w.heap.size + 1, 1, none⟩ = some (.slice ar kr cr) ∧ w5.cell? ⟨w.heap.size + 1 + 1, 0, none⟩ = some (.bool false) ∧ w5.cell? ⟨w.heap.size + 1 + 1, 1, none⟩ = some (.slice none 0 0) ∧ Kept w w5 ∧ w.heap.size + 1 + 1 + 1 ≤ w5.heap.size ∧ (∀ x o, w.heap.size ≤ x → x < w.heap.size + 1 + 1 + 1 → w5.frozen? ⟨x, o, none⟩ = false) ∧ Off w.heap.size (w.heap.size + 1 + 1 + 1) w5 (.slice aoy ky capy) y ∧ Off w.heap.size (w.heap.size + 1 + 1 + 1) w5 (.slice ar kr cr) r) := ⟨p0, p1, p2, p3, pc0, pc1, hK5, hs5, hf5, hOy, hOr⟩
          clear p0 p1 p2 p3 p4 pc0 pc1 hK5 hs5 hf5 hOy hOr hw5 hA0 hA1 hB0 hB1 hC0 hC1 hf0 hf1 hf2 hf3 hsz hsz2 hsz3 hsz4 hsz5 hsz6
          have hk5 : Kept w5 ((w5.alloc (.cells #[.bool s4, .slice aq kq cq] 50)).alloc (.cells #[.bool false, .slice ar kr cr] 50)).drew := (((Kept.refl w5).alloc _).alloc _).drew
          have HK5 : Hid (Kept w5 ((w5.alloc (.cells #[.bool s4, .slice aq kq cq] 50)).alloc (.cells #[.bool false, .slice ar kr cr] 50)).drew) := hk5
          clear hk5
          go_wp2
          go_roundw
          case rel =>
            obtain ⟨q0, q1, q2, q3, q4, q5, q6, q7, q8, q9, q10⟩ := H5.out
            have hk5 := HK5.out
            have h4 := H4.out
            refine ⟨y, r, aoy, ar, ky, kr, capy, cr, hky, hkr, cell_kept hk5 q0, cell_kept hk5 q1, cell_kept hk5 q2, cell_kept hk5 q3, cell_kept hk5 q4, cell_kept hk5 q5, fun x o h1 h2 => ?_, ⟨q6.trans hk5, Nat.le_trans q7 hk5.size⟩, h4.2.1, h4.2.2.2.2.2.2.2.2.1, q9.kept hk5, q10.kept hk5, h4.2.2.2.2.1, h4.2.2.2.2.2.1, h4.2.2.2.2.2.2.2.1⟩
            rw [hk5.frozens x o (by omega)]; exact q8 x o h1 h2
          case measure =>
            obtain ⟨q0, q1, q2, q3, q4, q5, q6, q7, q8, q9, q10⟩ := H5.out
            have hk5 := HK5.out
            have h1 := rdc_of (cell_kept hk5 q3) (q10.1.kept hk5)
            have h4 := H4.out
            have h2 := h4.2.2.2.2.2.2.2.2.2
            have h3 := h4.2.2.2.2.2.2.1
            show rdc _ (w.heap.size + 1) < rdc wr (w.heap.size + 1)
            omega

end Go.Proofs.YthijnnififodjaaDoor.D

namespace Go.Proofs.YthijnnififodjaaDoor.D
open Go.RowKit

theorem NIs.len {w : World} {s : Bool} {ao : Option Addr} {k cap : Nat} {z : Int} (h : NIs w s (.slice ao k cap) z) : ∃ l, Sl w (.slice ao l.length cap) l ∧ D.Right s l ∧ int s l = z ∧ k = l.length := by
  obtain ⟨l, h1, h2, h3⟩ := h
  have e : k = l.length := by obtain ⟨_, _, _, he, _⟩ := h1; simp only [Value.slice.injEq] at he; exact he.2.1
  subst e
  exact ⟨l, h1, h2, h3, rfl⟩

theorem Divide_any (m n : Bool) (aoa aob : Option Addr) (ka kb capa capb : Nat) (x y : Int) (w : World) (ha : NIs w m (.slice aoa ka capa) x) (hb : NIs w n (.slice aob kb capb) y) (hla : ka ≤ 1000) (hlb : kb ≤ 1000) (hy : y ≠ 0) :
    Calls Tryd.prog 25 #[.agg #[.bool m, .slice aoa ka capa], .agg #[.bool n, .slice aob kb capb]] w fun e w' => Kept w w' ∧ ∃ s aq kq cq t ar kr cr, e = .returned (.tuple #[.agg #[.bool s, .slice aq kq cq], .agg #[.bool t, .slice ar kr cr]]) ∧ NIs w' s (.slice aq kq cq) (Int.tdiv x y) ∧ NIs w' t (.slice ar kr cr) (Int.tmod x y) ∧ kq ≤ ka ∧ kr ≤ kb := by
  obtain ⟨a, ha1, ha2, rfl, rfl⟩ := ha.len
  obtain ⟨b, hb1, hb2, rfl, rfl⟩ := hb.len
  have hb0 : 0 < D.val b := by
    rcases Nat.eq_zero_or_pos (D.val b) with h | h
    · exfalso; apply hy; unfold int; rw [h]; cases n <;> rfl
    · exact h
  refine (Divide_raw m n aoa aob capa capb a b w ha1 hb1 hla hlb hb2.tr hb0).mono ?_
  rintro e w' ⟨hk, s, aq, kq, cq, q, t, ar, kr, cr, r, rfl, hNq, hNr, hRq, hRr, hval, hlt, hiq, hir⟩
  have hid := int_tdiv (m := m) (n := n) hval hlt
  have e1 : kq = q.length := by obtain ⟨_, _, _, he, _⟩ := hNq.1; simp only [Value.slice.injEq] at he; exact he.2.1
  have e2 : kr = r.length := by obtain ⟨_, _, _, he, _⟩ := hNr.1; simp only [Value.slice.injEq] at he; exact he.2.1
  have hqa : D.val q ≤ D.val a := by
    rw [hval]
    have := Nat.mul_le_mul_left (D.val q) hb0
    omega
  refine ⟨hk, s, aq, kq, cq, t, ar, kr, cr, rfl, ⟨q, hNq.1, hRq, by rw [hiq, hid.1]⟩, ⟨r, hNr.1, hRr, by rw [hir, hid.2]⟩, ?_, ?_⟩
  · rw [e1]; exact D.len_le_of_val_le hRq.tr ha1.bd hqa
  · rw [e2]; exact D.len_le_of_val_le hRr.tr hb1.bd (Nat.le_of_lt hlt)

theorem Common_any (m n : Bool) (aoa aob : Option Addr) (ka kb capa capb : Nat) (x y : Int) (w : World) (ha : NIs w m (.slice aoa ka capa) x) (hb : NIs w n (.slice aob kb capb) y) (hla : ka ≤ 1000) (hlb : kb ≤ 1000) :
    Calls Tryd.prog 32 #[.agg #[.bool m, .slice aoa ka capa], .agg #[.bool n, .slice aob kb capb]] w fun e w' => Kept w w' ∧ ∃ ao k cap, e = .returned (.agg #[.bool false, .slice ao k cap]) ∧ NIs w' false (.slice ao k cap) ((Nat.gcd x.natAbs y.natAbs : Nat) : Int) ∧ k ≤ max ka kb := by
  obtain ⟨a, ha1, ha2, rfl, rfl⟩ := ha.len
  obtain ⟨b, hb1, hb2, rfl, rfl⟩ := hb.len
  refine (Common_raw m n aoa aob capa capb a b w ha1 hb1 hla hlb ha2.tr hb2.tr).mono ?_
  rintro e w' ⟨hk, ao, k, cap, l, rfl, hS, ht, hv⟩
  have e1 : k = l.length := by obtain ⟨_, _, _, he, _⟩ := hS; simp only [Value.slice.injEq] at he; exact he.2.1
  refine ⟨hk, ao, k, cap, rfl, ⟨l, hS, ⟨hS.bd, ht, fun _ => rfl⟩, by rw [natAbs_int, natAbs_int, ← hv]; simp [int]⟩, ?_⟩
  rw [e1]
  by_cases h0 : D.val a = 0
  · rw [h0, Nat.gcd_zero_left] at hv
    have := D.len_le_of_val_le ht hb1.bd (by omega)
    omega
  · have := D.len_le_of_val_le ht ha1.bd (by rw [hv]; exact Nat.gcd_le_left _ (by omega))
    omega

end Go.Proofs.YthijnnififodjaaDoor.D

/- lentInt of package shuntlaw02: as shuntlaw01's lent (Lent.lean), by program. -/
import Derived.Test.YtblpacgfgifkcaaGreatGae
import Derived.Test.YtblpacgfgifkcaaGreatGac
import Derived.Deep.AppendLies
namespace Go.Proofs.YtblpacgfgifkcaaGreat
open Go.RowKit
def Lent (B : Nat) (w : World) (b n cap : Nat) (l : List Nat) : Prop := n = l.length ∧ New B w (.slice (some ⟨b, 0, none⟩) (n + 1) cap) (l ++ [11259375])
theorem own_empty (w : World) (B b : Nat) (hb : w.heap.size = b) (hB : B ≤ b) : (w.alloc (Obj.cells #[] 40)).ownsRow B 40 1 (.slice (some ⟨b, 0, none⟩) 0 0) 0 [] := by
 subst hb
 refine ⟨rfl, .inr ⟨w.heap.size, 0, #[], rfl, hB, ?_, Nat.le_refl _, by unfold maxLen; omega, rfl, rfl⟩⟩
 show (w.heap.push _)[w.heap.size]? = _
 simp
theorem mark_kept {w w' : World} {b : Nat} {x : Value} (h : w.cell? ⟨b, 0, none⟩ = some x) (k : w'.cell? ⟨b, 0, none⟩ = w.cell? ⟨b, 0, none⟩) : ∀ j u, ([x] : List Value)[j]? = some u → w'.cell? ((⟨b, 0, none⟩ : Addr).add j) = some u := by
 intro j u hu
 have hj : j = 0 := by
  have := (List.getElem?_eq_some_iff.1 hu).1
  simpa using this
 subst hj
 simp at hu
 subst hu
 exact k.trans h
theorem us_mark (l : List Nat) : us l ++ [.int .u32 11259375] = us (l ++ [11259375]) := by rw [us_snoc]; rfl
set_option maxRecDepth 100000 in
set_option maxHeartbeats 4000000 in
theorem lent_some (m : Bool) (ao : Option Addr) (n cap : Nat) (l : List Nat) (w : World) (h : Sl w (.slice ao n cap) l) (h0 : 0 < l.length) (hl : l.length ≤ 160) :
  Calls Tryz.prog 27 #[.agg #[.bool m, .slice ao n cap]] w fun e w' => Kept w w' ∧ ∃ b cap', e = .returned (.agg #[.bool m, .slice (some ⟨b, 0, none⟩) n cap']) ∧ Lent w.heap.size w' b n cap' l := by
 have hn := h.len
 subst hn
 obtain ⟨hb, ao', cap', he, hx⟩ := h
 simp only [Value.slice.injEq] at he
 obtain ⟨rfl, _, rfl⟩ := he
 obtain ⟨_, b, off, rfl, hlt, hc⟩ := hx h0
 have HB : Hid (M.Bd l) := hb
 have HCb : Hid (∀ j, j < l.length → ((w.alloc (Obj.cells #[.bool m, .slice (some ⟨b, off, none⟩) l.length cap] 24)).alloc (Obj.cells #[.bool false, .slice none 0 0] 24)).cell? ⟨b, off + j, none⟩ = some (.int .u32 ((l.getD j 0 : Nat) : Int))) := fun j hj => cell_kept (((Kept.refl w).alloc _).alloc _) (hc j hj)
 have hne : ¬ (w.heap.size + 1 = w.heap.size) := by omega
 have hQ0 : ((w.alloc (Obj.cells #[.bool m, .slice (some ⟨b, off, none⟩) l.length cap] 24)).alloc (Obj.cells #[.bool false, .slice none 0 0] 24)).cell? ⟨w.heap.size, 0, none⟩ = some (.bool m) := by simp
 have hQ1 : ((w.alloc (Obj.cells #[.bool m, .slice (some ⟨b, off, none⟩) l.length cap] 24)).alloc (Obj.cells #[.bool false, .slice none 0 0] 24)).cell? ⟨w.heap.size, 1, none⟩ = some (.slice (some ⟨b, off, none⟩) l.length cap) := by simp
 clear hc hx hb
 obtain ⟨i0, hi, hz0, hz1, hz2⟩ := info_parts Tryz.info40
 have hm : l.length + 1 ≤ maxLen := by unfold maxLen; omega
 go_enter Tryz.func27, Tryz.ntmps27
 go_wp2_with fail
 refine wp_region_held_drew (S := fun w' => w'.cell? ⟨w.heap.size, 0, none⟩ = some (.bool m) ∧ w'.cell? ⟨w.heap.size, 1, none⟩ = some (.slice (some ⟨b, off, none⟩) l.length cap)) (by kernel_rfl) ⟨hQ0, hQ1⟩ (fun hHeld => ?_)
 refine wpAnyH_take (i := 0) (v := ?v0) rfl (by kernel_rfl) (by kernel_rfl) (by kernel_rfl) (fun _ _ _ h => h) (Or.inl ⟨by rfl, ?y0⟩) hHeld ?r0
 case y0 =>
  intro w' hSw
  obtain ⟨hSw0, hSw1⟩ := hSw
  go_simp
  with_reducible rfl
 case r0 =>
 refine wpAnyH_take (i := 1) (v := ?v1) rfl (by kernel_rfl) (by kernel_rfl) (by kernel_rfl) (fun _ _ _ h => h) (Or.inl ⟨by rfl, ?y1⟩) hHeld ?r1
 case y1 =>
  intro w' hSw
  obtain ⟨hSw0, hSw1⟩ := hSw
  go_simp
  with_reducible rfl
 case r1 =>
 refine wpAnyH_take (i := 3) (v := ?v3) rfl (by kernel_rfl) (by kernel_rfl) (by kernel_rfl) (fun _ _ _ h => h) (Or.inl ⟨by rfl, ?y3⟩) hHeld ?r3
 case y3 =>
  intro w' hSw
  obtain ⟨hSw0, hSw1⟩ := hSw
  go_simp
  with_reducible rfl
 case r3 =>
 refine wpAnyH_take (i := 4) (v := ?v4) rfl (by kernel_rfl) (by kernel_rfl) (by kernel_rfl) (fun _ _ _ h => h) (Or.inl ⟨by rfl, ?y4⟩) hHeld ?r4
 case y4 =>
  intro w' hSw
  obtain ⟨hSw0, hSw1⟩ := hSw
  go_simp
  with_reducible rfl
 case r4 =>
 refine wpAnyH_take (i := 8) (v := ?v8) rfl (by kernel_rfl) (by kernel_rfl) (by kernel_rfl) (fun _ _ _ h => h) (Or.inl ⟨by rfl, ?y8⟩) hHeld ?r8
 case y8 =>
  intro w' hSw
  obtain ⟨hSw0, hSw1⟩ := hSw
  go_simp
  with_reducible rfl
 case r8 =>
 refine wpAnyH_take (i := 9) (v := ?v9) rfl (by kernel_rfl) (by kernel_rfl) (by kernel_rfl) (fun _ _ _ h => h) (Or.inl ⟨by rfl, ?y9⟩) hHeld ?r9
 case y9 =>
  intro w' hSw
  obtain ⟨hSw0, hSw1⟩ := hSw
  go_simp
  with_reducible rfl
 case r9 =>
 refine wpAnyH_take (i := 10) (v := ?v10) rfl (by kernel_rfl) (by kernel_rfl) (by kernel_rfl) (fun _ _ _ h => h) (Or.inl ⟨by rfl, ?y10⟩) hHeld ?r10
 case y10 =>
  intro w' hSw
  obtain ⟨hSw0, hSw1⟩ := hSw
  go_simp
  with_reducible rfl
 case r10 =>
 refine wpAnyH_ready (rs := [2, 6]) (by kernel_rfl) (by simp) ?_
 refine AllReadyH.cons rfl (fun K hK => ?_) ?_
 ·
  go_simp
  refine hK.out _ _ ⟨cell_kept ((Kept.refl _).alloc _) hQ0, cell_kept ((Kept.refl _).alloc _) hQ1⟩ (fun hHeld => ?_)
  clear hK K
  have HK1 : Hid (Kept ((w.alloc (Obj.cells #[.bool m, .slice (some ⟨b, off, none⟩) l.length cap] 24)).alloc (Obj.cells #[.bool false, .slice none 0 0] 24)) (((w.alloc (Obj.cells #[.bool m, .slice (some ⟨b, off, none⟩) l.length cap] 24)).alloc (Obj.cells #[.bool false, .slice none 0 0] 24)).alloc (Obj.cells #[] 40)).drew) := ((Kept.refl _).alloc _).drew
  have HO1 : Hid ((((w.alloc (Obj.cells #[.bool m, .slice (some ⟨b, off, none⟩) l.length cap] 24)).alloc (Obj.cells #[.bool false, .slice none 0 0] 24)).alloc (Obj.cells #[] 40)).ownsRow (w.heap.size + 1 + 1) 40 1 (.slice (some ⟨w.heap.size + 1 + 1, 0, none⟩) 0 0) 0 []) := own_empty _ _ _ (by simp) (Nat.le_refl _)
  refine wpAnyH_ready (rs := [5, 6]) (by kernel_rfl) (by simp) ?_
  refine AllReadyH.cons rfl (fun K hK => ?_) ?_
  ·
   skip
   refine step_append_lies _ rfl (.tmp 5) (.tmp 7) 22 rfl (w.heap.size + 1 + 1) 40 i0 (.int .u32 0) 1 4 Tryz.underlying22 hi hz0 hz1 hz2 rfl (by decide) (.slice (some ⟨w.heap.size + 1 + 1, 0, none⟩) 0 0) 0 [] rfl HO1.out.drew ⟨b, off, none⟩ l.length cap (us l) rfl (by simp [us]) (Sl.news (fun j hj => HK1.out.cells _ _ (by simp; omega) |>.trans (HCb.out j hj))) (us_oneCell l) h0 (by omega) (by omega) (by simp) _ rfl ?_
   intro g2 cap2 W2 hown2 hgrow2 _ _
   have hB2 : Below (w.heap.size + 1 + 1) ((w.alloc (Obj.cells #[.bool m, .slice (some ⟨b, off, none⟩) l.length cap] 24)).alloc (Obj.cells #[.bool false, .slice none 0 0] 24)) W2 := Below.grown (Below.mono HK1.out (by simp)) hgrow2 (by simp) (fun j hj => by simp [Value.ownBlock] at hj; omega)
   have HK2 : Hid (Kept ((w.alloc (Obj.cells #[.bool m, .slice (some ⟨b, off, none⟩) l.length cap] 24)).alloc (Obj.cells #[.bool false, .slice none 0 0] 24)) W2) := Below.mono hB2 (by simp)
   have H3 : Hid ((W2.alloc (Obj.cells #[.int .u32 11259375] 40)).ownsRow (w.heap.size + 1 + 1) 40 1 (.slice (some ⟨g2, 0, none⟩) l.length cap2) l.length (us l)) := by
    show World.ownsRow _ _ _ _ _ _ _
    have := hown2.alloc (Obj.cells #[.int .u32 11259375] 40)
    simpa using this
   have HK3 : Hid (Kept ((w.alloc (Obj.cells #[.bool m, .slice (some ⟨b, off, none⟩) l.length cap] 24)).alloc (Obj.cells #[.bool false, .slice none 0 0] 24)) (W2.alloc (Obj.cells #[.int .u32 11259375] 40))) := HK2.out.alloc _
   have hS0 := cell_kept HK2.out hQ0
   have hS1 := cell_kept HK2.out hQ1
   refine hK.out _ _ ⟨hS0, hS1⟩ (fun hHeld => ?_)
   clear hK K hown2 hgrow2 hB2
   refine wpAnyH_ready (rs := [6]) (by kernel_rfl) (by simp) ?_
   refine AllReadyH.cons rfl (fun K hK => ?_) AllReadyH.nil
   go_simp
   refine hK.out _ _ ⟨cell_kept HK3.out hQ0, cell_kept HK3.out hQ1⟩ (fun hHeld => ?_)
   clear hK K
   refine wpAnyH_ready (rs := [7]) (by kernel_rfl) (by simp) ?_
   refine AllReadyH.cons rfl (fun K hK => ?_) AllReadyH.nil
   refine step_append_lies _ rfl (.tmp 8) (.tmp 9) 22 rfl (w.heap.size + 1 + 1) 40 i0 (.int .u32 0) 1 4 Tryz.underlying22 hi hz0 hz1 hz2 rfl (by decide) (.slice (some ⟨g2, 0, none⟩) l.length cap2) l.length (us l) rfl H3.out ⟨W2.heap.size, 0, none⟩ 1 1 [.int .u32 11259375] rfl rfl (cell_new W2 _ _) (fun u hu => by simp at hu; subst hu; rfl) (by omega) (by omega) (by omega) (by have := HK3.out.size; simpa using this) _ rfl ?_
   intro g4 cap4 W4 hown4 hgrow4 _ hlt4
   have hB4 : Below (w.heap.size + 1 + 1) ((w.alloc (Obj.cells #[.bool m, .slice (some ⟨b, off, none⟩) l.length cap] 24)).alloc (Obj.cells #[.bool false, .slice none 0 0] 24)) W4 := Below.grown (Below.mono HK3.out (by simp)) hgrow4 (by have := HK3.out.size; simpa using this) (fun j hj => (H3.out.lt j hj).1)
   have HK4 : Hid (Kept ((w.alloc (Obj.cells #[.bool m, .slice (some ⟨b, off, none⟩) l.length cap] 24)).alloc (Obj.cells #[.bool false, .slice none 0 0] 24)) W4) := Below.mono hB4 (by simp)
   rw [us_mark] at hown4
   have H4 : Hid (W4.ownsRow (w.heap.size + 1 + 1) 40 1 (.slice (some ⟨g4, 0, none⟩) (l.length + 1) cap4) (l.length + 1) (us (l ++ [11259375]))) := hown4
   have hcap4 : l.length + 1 ≤ cap4 := by
    obtain ⟨_, ⟨h, _⟩ | ⟨_, _, _, h, _, _, h2, _⟩⟩ := hown4
    ·
     cases h
    ·
     simp only [Value.slice.injEq] at h; omega
   have hcap5 : l.length ≤ cap4 := by omega
   obtain ⟨hP0, hP1, hR0, hR1⟩ := box_kept2 HK4.out
   have hf4 := HK4.out.frozens
   refine hK.out _ _ ⟨hP0, hP1⟩ (fun _ => ?_)
   clear hK K hown4 hgrow4 hlt4 hB4
   refine wpAnyH_ready (rs := [11]) (by kernel_rfl) (by simp) ?_
   refine AllReadyH.cons rfl (fun K hK => ?_) AllReadyH.nil
   go_simp
   refine hK.out _ _ ⟨hP0, hP1⟩ (fun _ => ?_)
   clear hK K
   refine wpAnyH_ready (rs := [12]) (by kernel_rfl) (by simp) ?_
   refine AllReadyH.cons rfl (fun K hK => ?_) AllReadyH.nil
   go_simp
   refine hK.out _ _ ⟨hP0, hP1⟩ (fun _ => ?_)
   clear hK K
   refine wpAnyH_ready (rs := [13]) (by kernel_rfl) (by simp) ?_
   refine AllReadyH.cons rfl (fun K hK => ?_) AllReadyH.nil
   go_simp
   refine hK.out _ _ ⟨?_, ?_⟩ (fun _ => ?_)
   ·
    rw [World.cell?_setCell_far _ _ _ _ hne, World.cell?_setCell_far _ _ _ _ hne]; exact hP0
   ·
    rw [World.cell?_setCell_far _ _ _ _ hne, World.cell?_setCell_far _ _ _ _ hne]; exact hP1
   clear hK K
   refine wpAnyH_done (by kernel_rfl) ?_ _
   go_wp2
   exact bodyPost_ret (v := .agg #[.bool m, .slice (some ⟨g4, 0, none⟩) l.length cap4]) (by simp [results, Tryz.results27, go_sem, hR0, hR1]) rfl ⟨((((Kept.refl w).alloc _).alloc _ |>.trans HK4.out).setCell (by simp) _).setCell (by simp) _, g4, cap4, rfl, rfl, ((((New.of_owns H4.out (HB.out.snoc (by omega))).other (by simp) _).other (by simp) _).mono (by omega))⟩
  ·
   refine AllReadyH.cons rfl (fun K hK => ?_) AllReadyH.nil
   go_simp
   refine hK.out _ _ ⟨cell_kept (((Kept.refl _).alloc _).alloc _) hQ0, cell_kept (((Kept.refl _).alloc _).alloc _) hQ1⟩ (fun hHeld => ?_)
   clear hK K HK1
   have HK1 : Hid (Kept ((w.alloc (Obj.cells #[.bool m, .slice (some ⟨b, off, none⟩) l.length cap] 24)).alloc (Obj.cells #[.bool false, .slice none 0 0] 24)) ((((w.alloc (Obj.cells #[.bool m, .slice (some ⟨b, off, none⟩) l.length cap] 24)).alloc (Obj.cells #[.bool false, .slice none 0 0] 24)).alloc (Obj.cells #[] 40)).alloc (Obj.cells #[.int .u32 11259375] 40)).drew) := (((Kept.refl _).alloc _).alloc _).drew
   refine wpAnyH_ready (rs := [5]) (by kernel_rfl) (by simp) ?_
   refine AllReadyH.cons rfl (fun K hK => ?_) AllReadyH.nil
   refine step_append_lies _ rfl (.tmp 5) (.tmp 7) 22 rfl (w.heap.size + 1 + 1) 40 i0 (.int .u32 0) 1 4 Tryz.underlying22 hi hz0 hz1 hz2 rfl (by decide) (.slice (some ⟨w.heap.size + 1 + 1, 0, none⟩) 0 0) 0 [] rfl (HO1.out.alloc _ |>.drew) ⟨b, off, none⟩ l.length cap (us l) rfl (by simp [us]) (Sl.news (fun j hj => HK1.out.cells _ _ (by simp; omega) |>.trans (HCb.out j hj))) (us_oneCell l) h0 (by omega) (by omega) (by simp) _ rfl ?_
   intro g2 cap2 W2 hown2 hgrow2 _ _
   have hB2 : Below (w.heap.size + 1 + 1) ((w.alloc (Obj.cells #[.bool m, .slice (some ⟨b, off, none⟩) l.length cap] 24)).alloc (Obj.cells #[.bool false, .slice none 0 0] 24)) W2 := Below.grown (Below.mono HK1.out (by simp)) hgrow2 (by simp) (fun j hj => by simp [Value.ownBlock] at hj; omega)
   have HK3 : Hid (Kept ((w.alloc (Obj.cells #[.bool m, .slice (some ⟨b, off, none⟩) l.length cap] 24)).alloc (Obj.cells #[.bool false, .slice none 0 0] 24)) W2) := Below.mono hB2 (by simp)
   have H3 : Hid (W2.ownsRow (w.heap.size + 1 + 1) 40 1 (.slice (some ⟨g2, 0, none⟩) l.length cap2) l.length (us l)) := by
    show World.ownsRow _ _ _ _ _ _ _
    simpa using hown2
   have Hm : Hid (∀ j u, ([.int .u32 11259375] : List Value)[j]? = some u → W2.cell? ((⟨w.heap.size + 1 + 1 + 1, 0, none⟩ : Addr).add j) = some u) := mark_kept (w := ((((w.alloc (Obj.cells #[.bool m, .slice (some ⟨b, off, none⟩) l.length cap] 24)).alloc (Obj.cells #[.bool false, .slice none 0 0] 24)).alloc (Obj.cells #[] 40)).alloc (Obj.cells #[.int .u32 11259375] 40)).drew) (World.cell?_alloc_at _ _ _ _ (by simp)) (hgrow2.cell_far _ (by simp) (by simp [Value.ownBlock]))
   rw [Nat.zero_add]
   refine hK.out _ _ ⟨cell_kept HK3.out hQ0, cell_kept HK3.out hQ1⟩ (fun hHeld => ?_)
   clear hK K hown2 hgrow2 hB2
   refine wpAnyH_ready (rs := [7]) (by kernel_rfl) (by simp) ?_
   refine AllReadyH.cons rfl (fun K hK => ?_) AllReadyH.nil
   refine step_append_lies _ rfl (.tmp 8) (.tmp 9) 22 rfl (w.heap.size + 1 + 1) 40 i0 (.int .u32 0) 1 4 Tryz.underlying22 hi hz0 hz1 hz2 rfl (by decide) (.slice (some ⟨g2, 0, none⟩) l.length cap2) l.length (us l) rfl H3.out ⟨w.heap.size + 1 + 1 + 1, 0, none⟩ 1 1 [.int .u32 11259375] rfl rfl Hm.out (fun u hu => by simp at hu; subst hu; rfl) (by omega) (by omega) (by omega) (by have := HK3.out.size; simpa using this) _ rfl ?_
   intro g4 cap4 W4 hown4 hgrow4 _ hlt4
   have hB4 : Below (w.heap.size + 1 + 1) ((w.alloc (Obj.cells #[.bool m, .slice (some ⟨b, off, none⟩) l.length cap] 24)).alloc (Obj.cells #[.bool false, .slice none 0 0] 24)) W4 := Below.grown (Below.mono HK3.out (by simp)) hgrow4 (by have := HK3.out.size; simpa using this) (fun j hj => (H3.out.lt j hj).1)
   have HK4 : Hid (Kept ((w.alloc (Obj.cells #[.bool m, .slice (some ⟨b, off, none⟩) l.length cap] 24)).alloc (Obj.cells #[.bool false, .slice none 0 0] 24)) W4) := Below.mono hB4 (by simp)
   rw [us_mark] at hown4
   have H4 : Hid (W4.ownsRow (w.heap.size + 1 + 1) 40 1 (.slice (some ⟨g4, 0, none⟩) (l.length + 1) cap4) (l.length + 1) (us (l ++ [11259375]))) := hown4
   have hcap4 : l.length + 1 ≤ cap4 := by
    obtain ⟨_, ⟨h, _⟩ | ⟨_, _, _, h, _, _, h2, _⟩⟩ := hown4
    ·
     cases h
    ·
     simp only [Value.slice.injEq] at h; omega
   have hcap5 : l.length ≤ cap4 := by omega
   obtain ⟨hP0, hP1, hR0, hR1⟩ := box_kept2 HK4.out
   have hf4 := HK4.out.frozens
   refine hK.out _ _ ⟨hP0, hP1⟩ (fun _ => ?_)
   clear hK K hown4 hgrow4 hlt4 hB4
   refine wpAnyH_ready (rs := [11]) (by kernel_rfl) (by simp) ?_
   refine AllReadyH.cons rfl (fun K hK => ?_) AllReadyH.nil
   go_simp
   refine hK.out _ _ ⟨hP0, hP1⟩ (fun _ => ?_)
   clear hK K
   refine wpAnyH_ready (rs := [12]) (by kernel_rfl) (by simp) ?_
   refine AllReadyH.cons rfl (fun K hK => ?_) AllReadyH.nil
   go_simp
   refine hK.out _ _ ⟨hP0, hP1⟩ (fun _ => ?_)
   clear hK K
   refine wpAnyH_ready (rs := [13]) (by kernel_rfl) (by simp) ?_
   refine AllReadyH.cons rfl (fun K hK => ?_) AllReadyH.nil
   go_simp
   refine hK.out _ _ ⟨?_, ?_⟩ (fun _ => ?_)
   ·
    rw [World.cell?_setCell_far _ _ _ _ hne, World.cell?_setCell_far _ _ _ _ hne]; exact hP0
   ·
    rw [World.cell?_setCell_far _ _ _ _ hne, World.cell?_setCell_far _ _ _ _ hne]; exact hP1
   clear hK K
   refine wpAnyH_done (by kernel_rfl) ?_ _
   go_wp2
   exact bodyPost_ret (v := .agg #[.bool m, .slice (some ⟨g4, 0, none⟩) l.length cap4]) (by simp [results, Tryz.results27, go_sem, hR0, hR1]) rfl ⟨((((Kept.refl w).alloc _).alloc _ |>.trans HK4.out).setCell (by simp) _).setCell (by simp) _, g4, cap4, rfl, rfl, ((((New.of_owns H4.out (HB.out.snoc (by omega))).other (by simp) _).other (by simp) _).mono (by omega))⟩
 ·
  refine AllReadyH.cons rfl (fun K hK => ?_) AllReadyH.nil
  go_simp
  refine hK.out _ _ ⟨cell_kept ((Kept.refl _).alloc _) hQ0, cell_kept ((Kept.refl _).alloc _) hQ1⟩ (fun hHeld => ?_)
  clear hK K
  refine wpAnyH_ready (rs := [2]) (by kernel_rfl) (by simp) ?_
  refine AllReadyH.cons rfl (fun K hK => ?_) AllReadyH.nil
  go_simp
  refine hK.out _ _ ⟨cell_kept (((Kept.refl _).alloc _).alloc _) hQ0, cell_kept (((Kept.refl _).alloc _).alloc _) hQ1⟩ (fun hHeld => ?_)
  clear hK K
  have HO1 : Hid (((((w.alloc (Obj.cells #[.bool m, .slice (some ⟨b, off, none⟩) l.length cap] 24)).alloc (Obj.cells #[.bool false, .slice none 0 0] 24)).alloc (Obj.cells #[.int .u32 11259375] 40)).alloc (Obj.cells #[] 40)).ownsRow (w.heap.size + 1 + 1) 40 1 (.slice (some ⟨w.heap.size + 1 + 1 + 1, 0, none⟩) 0 0) 0 []) := own_empty _ _ _ (by simp) (by omega)
  have HK1 : Hid (Kept ((w.alloc (Obj.cells #[.bool m, .slice (some ⟨b, off, none⟩) l.length cap] 24)).alloc (Obj.cells #[.bool false, .slice none 0 0] 24)) ((((w.alloc (Obj.cells #[.bool m, .slice (some ⟨b, off, none⟩) l.length cap] 24)).alloc (Obj.cells #[.bool false, .slice none 0 0] 24)).alloc (Obj.cells #[.int .u32 11259375] 40)).alloc (Obj.cells #[] 40)).drew) := (((Kept.refl _).alloc _).alloc _).drew
  refine wpAnyH_ready (rs := [5]) (by kernel_rfl) (by simp) ?_
  refine AllReadyH.cons rfl (fun K hK => ?_) AllReadyH.nil
  refine step_append_lies _ rfl (.tmp 5) (.tmp 7) 22 rfl (w.heap.size + 1 + 1) 40 i0 (.int .u32 0) 1 4 Tryz.underlying22 hi hz0 hz1 hz2 rfl (by decide) (.slice (some ⟨w.heap.size + 1 + 1 + 1, 0, none⟩) 0 0) 0 [] rfl (HO1.out.drew) ⟨b, off, none⟩ l.length cap (us l) rfl (by simp [us]) (Sl.news (fun j hj => HK1.out.cells _ _ (by simp; omega) |>.trans (HCb.out j hj))) (us_oneCell l) h0 (by omega) (by omega) (by simp) _ rfl ?_
  intro g2 cap2 W2 hown2 hgrow2 _ _
  have hB2 : Below (w.heap.size + 1 + 1) ((w.alloc (Obj.cells #[.bool m, .slice (some ⟨b, off, none⟩) l.length cap] 24)).alloc (Obj.cells #[.bool false, .slice none 0 0] 24)) W2 := Below.grown (Below.mono HK1.out (by simp)) hgrow2 (by simp) (fun j hj => by simp [Value.ownBlock] at hj; omega)
  have HK3 : Hid (Kept ((w.alloc (Obj.cells #[.bool m, .slice (some ⟨b, off, none⟩) l.length cap] 24)).alloc (Obj.cells #[.bool false, .slice none 0 0] 24)) W2) := Below.mono hB2 (by simp)
  have H3 : Hid (W2.ownsRow (w.heap.size + 1 + 1) 40 1 (.slice (some ⟨g2, 0, none⟩) l.length cap2) l.length (us l)) := by
   show World.ownsRow _ _ _ _ _ _ _
   simpa using hown2
  have Hm : Hid (∀ j u, ([.int .u32 11259375] : List Value)[j]? = some u → W2.cell? ((⟨w.heap.size + 1 + 1, 0, none⟩ : Addr).add j) = some u) := mark_kept (w := ((((w.alloc (Obj.cells #[.bool m, .slice (some ⟨b, off, none⟩) l.length cap] 24)).alloc (Obj.cells #[.bool false, .slice none 0 0] 24)).alloc (Obj.cells #[.int .u32 11259375] 40)).alloc (Obj.cells #[] 40)).drew) (cell_kept ((Kept.refl _).alloc _) (World.cell?_alloc_at _ _ _ _ (by simp))) (hgrow2.cell_far _ (by simp) (by simp [Value.ownBlock]))
  rw [Nat.zero_add]
  refine hK.out _ _ ⟨cell_kept HK3.out hQ0, cell_kept HK3.out hQ1⟩ (fun hHeld => ?_)
  clear hK K hown2 hgrow2 hB2
  refine wpAnyH_ready (rs := [7]) (by kernel_rfl) (by simp) ?_
  refine AllReadyH.cons rfl (fun K hK => ?_) AllReadyH.nil
  refine step_append_lies _ rfl (.tmp 8) (.tmp 9) 22 rfl (w.heap.size + 1 + 1) 40 i0 (.int .u32 0) 1 4 Tryz.underlying22 hi hz0 hz1 hz2 rfl (by decide) (.slice (some ⟨g2, 0, none⟩) l.length cap2) l.length (us l) rfl H3.out ⟨w.heap.size + 1 + 1, 0, none⟩ 1 1 [.int .u32 11259375] rfl rfl Hm.out (fun u hu => by simp at hu; subst hu; rfl) (by omega) (by omega) (by omega) (by have := HK3.out.size; simpa using this) _ rfl ?_
  intro g4 cap4 W4 hown4 hgrow4 _ hlt4
  have hB4 : Below (w.heap.size + 1 + 1) ((w.alloc (Obj.cells #[.bool m, .slice (some ⟨b, off, none⟩) l.length cap] 24)).alloc (Obj.cells #[.bool false, .slice none 0 0] 24)) W4 := Below.grown (Below.mono HK3.out (by simp)) hgrow4 (by have := HK3.out.size; simpa using this) (fun j hj => (H3.out.lt j hj).1)
  have HK4 : Hid (Kept ((w.alloc (Obj.cells #[.bool m, .slice (some ⟨b, off, none⟩) l.length cap] 24)).alloc (Obj.cells #[.bool false, .slice none 0 0] 24)) W4) := Below.mono hB4 (by simp)
  rw [us_mark] at hown4
  have H4 : Hid (W4.ownsRow (w.heap.size + 1 + 1) 40 1 (.slice (some ⟨g4, 0, none⟩) (l.length + 1) cap4) (l.length + 1) (us (l ++ [11259375]))) := hown4
  have hcap4 : l.length + 1 ≤ cap4 := by
   obtain ⟨_, ⟨h, _⟩ | ⟨_, _, _, h, _, _, h2, _⟩⟩ := hown4
   ·
    cases h
   ·
    simp only [Value.slice.injEq] at h; omega
  have hcap5 : l.length ≤ cap4 := by omega
  obtain ⟨hP0, hP1, hR0, hR1⟩ := box_kept2 HK4.out
  have hf4 := HK4.out.frozens
  refine hK.out _ _ ⟨hP0, hP1⟩ (fun _ => ?_)
  clear hK K hown4 hgrow4 hlt4 hB4
  refine wpAnyH_ready (rs := [11]) (by kernel_rfl) (by simp) ?_
  refine AllReadyH.cons rfl (fun K hK => ?_) AllReadyH.nil
  go_simp
  refine hK.out _ _ ⟨hP0, hP1⟩ (fun _ => ?_)
  clear hK K
  refine wpAnyH_ready (rs := [12]) (by kernel_rfl) (by simp) ?_
  refine AllReadyH.cons rfl (fun K hK => ?_) AllReadyH.nil
  go_simp
  refine hK.out _ _ ⟨hP0, hP1⟩ (fun _ => ?_)
  clear hK K
  refine wpAnyH_ready (rs := [13]) (by kernel_rfl) (by simp) ?_
  refine AllReadyH.cons rfl (fun K hK => ?_) AllReadyH.nil
  go_simp
  refine hK.out _ _ ⟨?_, ?_⟩ (fun _ => ?_)
  ·
   rw [World.cell?_setCell_far _ _ _ _ hne, World.cell?_setCell_far _ _ _ _ hne]; exact hP0
  ·
   rw [World.cell?_setCell_far _ _ _ _ hne, World.cell?_setCell_far _ _ _ _ hne]; exact hP1
  clear hK K
  refine wpAnyH_done (by kernel_rfl) ?_ _
  go_wp2
  exact bodyPost_ret (v := .agg #[.bool m, .slice (some ⟨g4, 0, none⟩) l.length cap4]) (by simp [results, Tryz.results27, go_sem, hR0, hR1]) rfl ⟨((((Kept.refl w).alloc _).alloc _ |>.trans HK4.out).setCell (by simp) _).setCell (by simp) _, g4, cap4, rfl, rfl, ((((New.of_owns H4.out (HB.out.snoc (by omega))).other (by simp) _).other (by simp) _).mono (by omega))⟩
set_option maxRecDepth 100000 in
set_option maxHeartbeats 4000000 in
theorem lent_nil (m : Bool) (cap : Nat) (w : World) :
  Calls Tryz.prog 27 #[.agg #[.bool m, .slice none 0 cap]] w fun e w' => Kept w w' ∧ ∃ b cap', e = .returned (.agg #[.bool m, .slice (some ⟨b, 0, none⟩) 0 cap']) ∧ Lent w.heap.size w' b 0 cap' [] := by
 have HB : Hid (M.Bd ([] : List Nat)) := M.Bd_nil
 have hne : ¬ (w.heap.size + 1 = w.heap.size) := by omega
 have hQ0 : ((w.alloc (Obj.cells #[.bool m, .slice none 0 cap] 24)).alloc (Obj.cells #[.bool false, .slice none 0 0] 24)).cell? ⟨w.heap.size, 0, none⟩ = some (.bool m) := by simp
 have hQ1 : ((w.alloc (Obj.cells #[.bool m, .slice none 0 cap] 24)).alloc (Obj.cells #[.bool false, .slice none 0 0] 24)).cell? ⟨w.heap.size, 1, none⟩ = some (.slice none 0 cap) := by simp
 obtain ⟨i0, hi, hz0, hz1, hz2⟩ := info_parts Tryz.info40
 have hm : 0 + 1 ≤ maxLen := by unfold maxLen; omega
 go_enter Tryz.func27, Tryz.ntmps27
 go_wp2_with fail
 refine wp_region_held_drew (S := fun w' => w'.cell? ⟨w.heap.size, 0, none⟩ = some (.bool m) ∧ w'.cell? ⟨w.heap.size, 1, none⟩ = some (.slice none 0 cap)) (by kernel_rfl) ⟨hQ0, hQ1⟩ (fun hHeld => ?_)
 refine wpAnyH_take (i := 0) (v := ?v0) rfl (by kernel_rfl) (by kernel_rfl) (by kernel_rfl) (fun _ _ _ h => h) (Or.inl ⟨by rfl, ?y0⟩) hHeld ?r0
 case y0 =>
  intro w' hSw
  obtain ⟨hSw0, hSw1⟩ := hSw
  go_simp
  with_reducible rfl
 case r0 =>
 refine wpAnyH_take (i := 1) (v := ?v1) rfl (by kernel_rfl) (by kernel_rfl) (by kernel_rfl) (fun _ _ _ h => h) (Or.inl ⟨by rfl, ?y1⟩) hHeld ?r1
 case y1 =>
  intro w' hSw
  obtain ⟨hSw0, hSw1⟩ := hSw
  go_simp
  with_reducible rfl
 case r1 =>
 refine wpAnyH_take (i := 3) (v := ?v3) rfl (by kernel_rfl) (by kernel_rfl) (by kernel_rfl) (fun _ _ _ h => h) (Or.inl ⟨by rfl, ?y3⟩) hHeld ?r3
 case y3 =>
  intro w' hSw
  obtain ⟨hSw0, hSw1⟩ := hSw
  go_simp
  with_reducible rfl
 case r3 =>
 refine wpAnyH_take (i := 4) (v := ?v4) rfl (by kernel_rfl) (by kernel_rfl) (by kernel_rfl) (fun _ _ _ h => h) (Or.inl ⟨by rfl, ?y4⟩) hHeld ?r4
 case y4 =>
  intro w' hSw
  obtain ⟨hSw0, hSw1⟩ := hSw
  go_simp
  with_reducible rfl
 case r4 =>
 refine wpAnyH_take (i := 8) (v := ?v8) rfl (by kernel_rfl) (by kernel_rfl) (by kernel_rfl) (fun _ _ _ h => h) (Or.inl ⟨by rfl, ?y8⟩) hHeld ?r8
 case y8 =>
  intro w' hSw
  obtain ⟨hSw0, hSw1⟩ := hSw
  go_simp
  with_reducible rfl
 case r8 =>
 refine wpAnyH_take (i := 9) (v := ?v9) rfl (by kernel_rfl) (by kernel_rfl) (by kernel_rfl) (fun _ _ _ h => h) (Or.inl ⟨by rfl, ?y9⟩) hHeld ?r9
 case y9 =>
  intro w' hSw
  obtain ⟨hSw0, hSw1⟩ := hSw
  go_simp
  with_reducible rfl
 case r9 =>
 refine wpAnyH_take (i := 10) (v := ?v10) rfl (by kernel_rfl) (by kernel_rfl) (by kernel_rfl) (fun _ _ _ h => h) (Or.inl ⟨by rfl, ?y10⟩) hHeld ?r10
 case y10 =>
  intro w' hSw
  obtain ⟨hSw0, hSw1⟩ := hSw
  go_simp
  with_reducible rfl
 case r10 =>
 refine wpAnyH_ready (rs := [2, 6]) (by kernel_rfl) (by simp) ?_
 refine AllReadyH.cons rfl (fun K hK => ?_) ?_
 ·
  go_simp
  refine hK.out _ _ ⟨cell_kept ((Kept.refl _).alloc _) hQ0, cell_kept ((Kept.refl _).alloc _) hQ1⟩ (fun hHeld => ?_)
  clear hK K
  have HO1 : Hid ((((w.alloc (Obj.cells #[.bool m, .slice none 0 cap] 24)).alloc (Obj.cells #[.bool false, .slice none 0 0] 24)).alloc (Obj.cells #[] 40)).ownsRow (w.heap.size + 1 + 1) 40 1 (.slice (some ⟨w.heap.size + 1 + 1, 0, none⟩) 0 0) 0 []) := own_empty _ _ _ (by simp) (Nat.le_refl _)
  refine wpAnyH_ready (rs := [5, 6]) (by kernel_rfl) (by simp) ?_
  refine AllReadyH.cons rfl (fun K hK => ?_) ?_
  ·
   go_simp
   refine hK.out _ _ ⟨cell_kept ((Kept.refl _).alloc _) hQ0, cell_kept ((Kept.refl _).alloc _) hQ1⟩ (fun hHeld => ?_)
   clear hK K
   refine wpAnyH_ready (rs := [6]) (by kernel_rfl) (by simp) ?_
   refine AllReadyH.cons rfl (fun K hK => ?_) AllReadyH.nil
   go_simp
   refine hK.out _ _ ⟨cell_kept (((Kept.refl _).alloc _).alloc _) hQ0, cell_kept (((Kept.refl _).alloc _).alloc _) hQ1⟩ (fun hHeld => ?_)
   clear hK K
   have HK3 : Hid (Kept ((w.alloc (Obj.cells #[.bool m, .slice none 0 cap] 24)).alloc (Obj.cells #[.bool false, .slice none 0 0] 24)) ((((w.alloc (Obj.cells #[.bool m, .slice none 0 cap] 24)).alloc (Obj.cells #[.bool false, .slice none 0 0] 24)).alloc (Obj.cells #[] 40)).alloc (Obj.cells #[.int .u32 11259375] 40)).drew) := (((Kept.refl _).alloc _).alloc _).drew
   have H3 : Hid (((((w.alloc (Obj.cells #[.bool m, .slice none 0 cap] 24)).alloc (Obj.cells #[.bool false, .slice none 0 0] 24)).alloc (Obj.cells #[] 40)).alloc (Obj.cells #[.int .u32 11259375] 40)).drew.ownsRow (w.heap.size + 1 + 1) 40 1 (.slice (some ⟨w.heap.size + 1 + 1, 0, none⟩) 0 0) 0 []) := HO1.out.alloc _ |>.drew
   have Hm : Hid (∀ j u, ([.int .u32 11259375] : List Value)[j]? = some u → ((((w.alloc (Obj.cells #[.bool m, .slice none 0 cap] 24)).alloc (Obj.cells #[.bool false, .slice none 0 0] 24)).alloc (Obj.cells #[] 40)).alloc (Obj.cells #[.int .u32 11259375] 40)).drew.cell? ((⟨w.heap.size + 1 + 1 + 1, 0, none⟩ : Addr).add j) = some u) := mark_kept (w := ((((w.alloc (Obj.cells #[.bool m, .slice none 0 cap] 24)).alloc (Obj.cells #[.bool false, .slice none 0 0] 24)).alloc (Obj.cells #[] 40)).alloc (Obj.cells #[.int .u32 11259375] 40)).drew) (World.cell?_alloc_at _ _ _ _ (by simp)) rfl
   refine wpAnyH_ready (rs := [7]) (by kernel_rfl) (by simp) ?_
   refine AllReadyH.cons rfl (fun K hK => ?_) AllReadyH.nil
   refine step_append_lies _ rfl (.tmp 8) (.tmp 9) 22 rfl (w.heap.size + 1 + 1) 40 i0 (.int .u32 0) 1 4 Tryz.underlying22 hi hz0 hz1 hz2 rfl (by decide) (.slice (some ⟨w.heap.size + 1 + 1, 0, none⟩) 0 0) 0 [] rfl H3.out ⟨w.heap.size + 1 + 1 + 1, 0, none⟩ 1 1 [.int .u32 11259375] rfl rfl Hm.out (fun u hu => by simp at hu; subst hu; rfl) (by omega) (by omega) (by omega) (by simp) _ rfl ?_
   intro g4 cap4 W4 hown4 hgrow4 _ hlt4
   have hB4 : Below (w.heap.size + 1 + 1) ((w.alloc (Obj.cells #[.bool m, .slice none 0 cap] 24)).alloc (Obj.cells #[.bool false, .slice none 0 0] 24)) W4 := Below.grown (Below.mono HK3.out (by simp)) hgrow4 (by simp) (fun j hj => (H3.out.lt j hj).1)
   have HK4 : Hid (Kept ((w.alloc (Obj.cells #[.bool m, .slice none 0 cap] 24)).alloc (Obj.cells #[.bool false, .slice none 0 0] 24)) W4) := Below.mono hB4 (by simp)
   rw [List.nil_append, show [.int .u32 11259375] = us [11259375] from rfl] at hown4
   have H4 : Hid (W4.ownsRow (w.heap.size + 1 + 1) 40 1 (.slice (some ⟨g4, 0, none⟩) (0 + 1) cap4) (0 + 1) (us [11259375])) := hown4
   have hcap4 : 0 + 1 ≤ cap4 := by
    obtain ⟨_, ⟨h, _⟩ | ⟨_, _, _, h, _, _, h2, _⟩⟩ := hown4
    ·
     cases h
    ·
     simp only [Value.slice.injEq] at h; omega
   have hcap5 : 0 ≤ cap4 := by omega
   obtain ⟨hP0, hP1, hR0, hR1⟩ := box_kept2 HK4.out
   have hf4 := HK4.out.frozens
   refine hK.out _ _ ⟨hP0, hP1⟩ (fun _ => ?_)
   clear hK K hown4 hgrow4 hlt4 hB4
   refine wpAnyH_ready (rs := [11]) (by kernel_rfl) (by simp) ?_
   refine AllReadyH.cons rfl (fun K hK => ?_) AllReadyH.nil
   go_simp
   refine hK.out _ _ ⟨hP0, hP1⟩ (fun _ => ?_)
   clear hK K
   refine wpAnyH_ready (rs := [12]) (by kernel_rfl) (by simp) ?_
   refine AllReadyH.cons rfl (fun K hK => ?_) AllReadyH.nil
   go_simp
   refine hK.out _ _ ⟨hP0, hP1⟩ (fun _ => ?_)
   clear hK K
   refine wpAnyH_ready (rs := [13]) (by kernel_rfl) (by simp) ?_
   refine AllReadyH.cons rfl (fun K hK => ?_) AllReadyH.nil
   go_simp
   refine hK.out _ _ ⟨?_, ?_⟩ (fun _ => ?_)
   ·
    rw [World.cell?_setCell_far _ _ _ _ hne, World.cell?_setCell_far _ _ _ _ hne]; exact hP0
   ·
    rw [World.cell?_setCell_far _ _ _ _ hne, World.cell?_setCell_far _ _ _ _ hne]; exact hP1
   clear hK K
   refine wpAnyH_done (by kernel_rfl) ?_ _
   go_wp2
   exact bodyPost_ret (v := .agg #[.bool m, .slice (some ⟨g4, 0, none⟩) 0 cap4]) (by simp [results, Tryz.results27, go_sem, hR0, hR1]) rfl ⟨((((Kept.refl w).alloc _).alloc _ |>.trans HK4.out).setCell (by simp) _).setCell (by simp) _, g4, cap4, rfl, rfl, ((((New.of_owns H4.out (HB.out.snoc (by omega))).other (by simp) _).other (by simp) _).mono (by omega))⟩
  ·
   refine AllReadyH.cons rfl (fun K hK => ?_) AllReadyH.nil
   go_simp
   refine hK.out _ _ ⟨cell_kept (((Kept.refl _).alloc _).alloc _) hQ0, cell_kept (((Kept.refl _).alloc _).alloc _) hQ1⟩ (fun hHeld => ?_)
   clear hK K
   refine wpAnyH_ready (rs := [5]) (by kernel_rfl) (by simp) ?_
   refine AllReadyH.cons rfl (fun K hK => ?_) AllReadyH.nil
   go_simp
   refine hK.out _ _ ⟨cell_kept (((Kept.refl _).alloc _).alloc _) hQ0, cell_kept (((Kept.refl _).alloc _).alloc _) hQ1⟩ (fun hHeld => ?_)
   clear hK K
   have HK3 : Hid (Kept ((w.alloc (Obj.cells #[.bool m, .slice none 0 cap] 24)).alloc (Obj.cells #[.bool false, .slice none 0 0] 24)) ((((w.alloc (Obj.cells #[.bool m, .slice none 0 cap] 24)).alloc (Obj.cells #[.bool false, .slice none 0 0] 24)).alloc (Obj.cells #[] 40)).alloc (Obj.cells #[.int .u32 11259375] 40)).drew) := (((Kept.refl _).alloc _).alloc _).drew
   have H3 : Hid (((((w.alloc (Obj.cells #[.bool m, .slice none 0 cap] 24)).alloc (Obj.cells #[.bool false, .slice none 0 0] 24)).alloc (Obj.cells #[] 40)).alloc (Obj.cells #[.int .u32 11259375] 40)).drew.ownsRow (w.heap.size + 1 + 1) 40 1 (.slice (some ⟨w.heap.size + 1 + 1, 0, none⟩) 0 0) 0 []) := HO1.out.alloc _ |>.drew
   have Hm : Hid (∀ j u, ([.int .u32 11259375] : List Value)[j]? = some u → ((((w.alloc (Obj.cells #[.bool m, .slice none 0 cap] 24)).alloc (Obj.cells #[.bool false, .slice none 0 0] 24)).alloc (Obj.cells #[] 40)).alloc (Obj.cells #[.int .u32 11259375] 40)).drew.cell? ((⟨w.heap.size + 1 + 1 + 1, 0, none⟩ : Addr).add j) = some u) := mark_kept (w := ((((w.alloc (Obj.cells #[.bool m, .slice none 0 cap] 24)).alloc (Obj.cells #[.bool false, .slice none 0 0] 24)).alloc (Obj.cells #[] 40)).alloc (Obj.cells #[.int .u32 11259375] 40)).drew) (World.cell?_alloc_at _ _ _ _ (by simp)) rfl
   refine wpAnyH_ready (rs := [7]) (by kernel_rfl) (by simp) ?_
   refine AllReadyH.cons rfl (fun K hK => ?_) AllReadyH.nil
   refine step_append_lies _ rfl (.tmp 8) (.tmp 9) 22 rfl (w.heap.size + 1 + 1) 40 i0 (.int .u32 0) 1 4 Tryz.underlying22 hi hz0 hz1 hz2 rfl (by decide) (.slice (some ⟨w.heap.size + 1 + 1, 0, none⟩) 0 0) 0 [] rfl H3.out ⟨w.heap.size + 1 + 1 + 1, 0, none⟩ 1 1 [.int .u32 11259375] rfl rfl Hm.out (fun u hu => by simp at hu; subst hu; rfl) (by omega) (by omega) (by omega) (by simp) _ rfl ?_
   intro g4 cap4 W4 hown4 hgrow4 _ hlt4
   have hB4 : Below (w.heap.size + 1 + 1) ((w.alloc (Obj.cells #[.bool m, .slice none 0 cap] 24)).alloc (Obj.cells #[.bool false, .slice none 0 0] 24)) W4 := Below.grown (Below.mono HK3.out (by simp)) hgrow4 (by simp) (fun j hj => (H3.out.lt j hj).1)
   have HK4 : Hid (Kept ((w.alloc (Obj.cells #[.bool m, .slice none 0 cap] 24)).alloc (Obj.cells #[.bool false, .slice none 0 0] 24)) W4) := Below.mono hB4 (by simp)
   rw [List.nil_append, show [.int .u32 11259375] = us [11259375] from rfl] at hown4
   have H4 : Hid (W4.ownsRow (w.heap.size + 1 + 1) 40 1 (.slice (some ⟨g4, 0, none⟩) (0 + 1) cap4) (0 + 1) (us [11259375])) := hown4
   have hcap4 : 0 + 1 ≤ cap4 := by
    obtain ⟨_, ⟨h, _⟩ | ⟨_, _, _, h, _, _, h2, _⟩⟩ := hown4
    ·
     cases h
    ·
     simp only [Value.slice.injEq] at h; omega
   have hcap5 : 0 ≤ cap4 := by omega
   obtain ⟨hP0, hP1, hR0, hR1⟩ := box_kept2 HK4.out
   have hf4 := HK4.out.frozens
   refine hK.out _ _ ⟨hP0, hP1⟩ (fun _ => ?_)
   clear hK K hown4 hgrow4 hlt4 hB4
   refine wpAnyH_ready (rs := [11]) (by kernel_rfl) (by simp) ?_
   refine AllReadyH.cons rfl (fun K hK => ?_) AllReadyH.nil
   go_simp
   refine hK.out _ _ ⟨hP0, hP1⟩ (fun _ => ?_)
   clear hK K
   refine wpAnyH_ready (rs := [12]) (by kernel_rfl) (by simp) ?_
   refine AllReadyH.cons rfl (fun K hK => ?_) AllReadyH.nil
   go_simp
   refine hK.out _ _ ⟨hP0, hP1⟩ (fun _ => ?_)
   clear hK K
   refine wpAnyH_ready (rs := [13]) (by kernel_rfl) (by simp) ?_
   refine AllReadyH.cons rfl (fun K hK => ?_) AllReadyH.nil
   go_simp
   refine hK.out _ _ ⟨?_, ?_⟩ (fun _ => ?_)
   ·
    rw [World.cell?_setCell_far _ _ _ _ hne, World.cell?_setCell_far _ _ _ _ hne]; exact hP0
   ·
    rw [World.cell?_setCell_far _ _ _ _ hne, World.cell?_setCell_far _ _ _ _ hne]; exact hP1
   clear hK K
   refine wpAnyH_done (by kernel_rfl) ?_ _
   go_wp2
   exact bodyPost_ret (v := .agg #[.bool m, .slice (some ⟨g4, 0, none⟩) 0 cap4]) (by simp [results, Tryz.results27, go_sem, hR0, hR1]) rfl ⟨((((Kept.refl w).alloc _).alloc _ |>.trans HK4.out).setCell (by simp) _).setCell (by simp) _, g4, cap4, rfl, rfl, ((((New.of_owns H4.out (HB.out.snoc (by omega))).other (by simp) _).other (by simp) _).mono (by omega))⟩
 ·
  refine AllReadyH.cons rfl (fun K hK => ?_) AllReadyH.nil
  go_simp
  refine hK.out _ _ ⟨cell_kept ((Kept.refl _).alloc _) hQ0, cell_kept ((Kept.refl _).alloc _) hQ1⟩ (fun hHeld => ?_)
  clear hK K
  refine wpAnyH_ready (rs := [2]) (by kernel_rfl) (by simp) ?_
  refine AllReadyH.cons rfl (fun K hK => ?_) AllReadyH.nil
  go_simp
  refine hK.out _ _ ⟨cell_kept (((Kept.refl _).alloc _).alloc _) hQ0, cell_kept (((Kept.refl _).alloc _).alloc _) hQ1⟩ (fun hHeld => ?_)
  clear hK K
  have HO1 : Hid (((((w.alloc (Obj.cells #[.bool m, .slice none 0 cap] 24)).alloc (Obj.cells #[.bool false, .slice none 0 0] 24)).alloc (Obj.cells #[.int .u32 11259375] 40)).alloc (Obj.cells #[] 40)).ownsRow (w.heap.size + 1 + 1) 40 1 (.slice (some ⟨w.heap.size + 1 + 1 + 1, 0, none⟩) 0 0) 0 []) := own_empty _ _ _ (by simp) (by omega)
  refine wpAnyH_ready (rs := [5]) (by kernel_rfl) (by simp) ?_
  refine AllReadyH.cons rfl (fun K hK => ?_) AllReadyH.nil
  go_simp
  refine hK.out _ _ ⟨cell_kept (((Kept.refl _).alloc _).alloc _) hQ0, cell_kept (((Kept.refl _).alloc _).alloc _) hQ1⟩ (fun hHeld => ?_)
  clear hK K
  have HK3 : Hid (Kept ((w.alloc (Obj.cells #[.bool m, .slice none 0 cap] 24)).alloc (Obj.cells #[.bool false, .slice none 0 0] 24)) ((((w.alloc (Obj.cells #[.bool m, .slice none 0 cap] 24)).alloc (Obj.cells #[.bool false, .slice none 0 0] 24)).alloc (Obj.cells #[.int .u32 11259375] 40)).alloc (Obj.cells #[] 40)).drew) := (((Kept.refl _).alloc _).alloc _).drew
  have H3 : Hid (((((w.alloc (Obj.cells #[.bool m, .slice none 0 cap] 24)).alloc (Obj.cells #[.bool false, .slice none 0 0] 24)).alloc (Obj.cells #[.int .u32 11259375] 40)).alloc (Obj.cells #[] 40)).drew.ownsRow (w.heap.size + 1 + 1) 40 1 (.slice (some ⟨w.heap.size + 1 + 1 + 1, 0, none⟩) 0 0) 0 []) := HO1.out.drew
  have Hm : Hid (∀ j u, ([.int .u32 11259375] : List Value)[j]? = some u → ((((w.alloc (Obj.cells #[.bool m, .slice none 0 cap] 24)).alloc (Obj.cells #[.bool false, .slice none 0 0] 24)).alloc (Obj.cells #[.int .u32 11259375] 40)).alloc (Obj.cells #[] 40)).drew.cell? ((⟨w.heap.size + 1 + 1, 0, none⟩ : Addr).add j) = some u) := mark_kept (w := ((((w.alloc (Obj.cells #[.bool m, .slice none 0 cap] 24)).alloc (Obj.cells #[.bool false, .slice none 0 0] 24)).alloc (Obj.cells #[.int .u32 11259375] 40)).alloc (Obj.cells #[] 40)).drew) (cell_kept ((Kept.refl _).alloc _) (World.cell?_alloc_at _ _ _ _ (by simp))) rfl
  refine wpAnyH_ready (rs := [7]) (by kernel_rfl) (by simp) ?_
  refine AllReadyH.cons rfl (fun K hK => ?_) AllReadyH.nil
  refine step_append_lies _ rfl (.tmp 8) (.tmp 9) 22 rfl (w.heap.size + 1 + 1) 40 i0 (.int .u32 0) 1 4 Tryz.underlying22 hi hz0 hz1 hz2 rfl (by decide) (.slice (some ⟨w.heap.size + 1 + 1 + 1, 0, none⟩) 0 0) 0 [] rfl H3.out ⟨w.heap.size + 1 + 1, 0, none⟩ 1 1 [.int .u32 11259375] rfl rfl Hm.out (fun u hu => by simp at hu; subst hu; rfl) (by omega) (by omega) (by omega) (by simp) _ rfl ?_
  intro g4 cap4 W4 hown4 hgrow4 _ hlt4
  have hB4 : Below (w.heap.size + 1 + 1) ((w.alloc (Obj.cells #[.bool m, .slice none 0 cap] 24)).alloc (Obj.cells #[.bool false, .slice none 0 0] 24)) W4 := Below.grown (Below.mono HK3.out (by simp)) hgrow4 (by simp) (fun j hj => (H3.out.lt j hj).1)
  have HK4 : Hid (Kept ((w.alloc (Obj.cells #[.bool m, .slice none 0 cap] 24)).alloc (Obj.cells #[.bool false, .slice none 0 0] 24)) W4) := Below.mono hB4 (by simp)
  rw [List.nil_append, show [.int .u32 11259375] = us [11259375] from rfl] at hown4
  have H4 : Hid (W4.ownsRow (w.heap.size + 1 + 1) 40 1 (.slice (some ⟨g4, 0, none⟩) (0 + 1) cap4) (0 + 1) (us [11259375])) := hown4
  have hcap4 : 0 + 1 ≤ cap4 := by
   obtain ⟨_, ⟨h, _⟩ | ⟨_, _, _, h, _, _, h2, _⟩⟩ := hown4
   ·
    cases h
   ·
    simp only [Value.slice.injEq] at h; omega
  have hcap5 : 0 ≤ cap4 := by omega
  obtain ⟨hP0, hP1, hR0, hR1⟩ := box_kept2 HK4.out
  have hf4 := HK4.out.frozens
  refine hK.out _ _ ⟨hP0, hP1⟩ (fun _ => ?_)
  clear hK K hown4 hgrow4 hlt4 hB4
  refine wpAnyH_ready (rs := [11]) (by kernel_rfl) (by simp) ?_
  refine AllReadyH.cons rfl (fun K hK => ?_) AllReadyH.nil
  go_simp
  refine hK.out _ _ ⟨hP0, hP1⟩ (fun _ => ?_)
  clear hK K
  refine wpAnyH_ready (rs := [12]) (by kernel_rfl) (by simp) ?_
  refine AllReadyH.cons rfl (fun K hK => ?_) AllReadyH.nil
  go_simp
  refine hK.out _ _ ⟨hP0, hP1⟩ (fun _ => ?_)
  clear hK K
  refine wpAnyH_ready (rs := [13]) (by kernel_rfl) (by simp) ?_
  refine AllReadyH.cons rfl (fun K hK => ?_) AllReadyH.nil
  go_simp
  refine hK.out _ _ ⟨?_, ?_⟩ (fun _ => ?_)
  ·
   rw [World.cell?_setCell_far _ _ _ _ hne, World.cell?_setCell_far _ _ _ _ hne]; exact hP0
  ·
   rw [World.cell?_setCell_far _ _ _ _ hne, World.cell?_setCell_far _ _ _ _ hne]; exact hP1
  clear hK K
  refine wpAnyH_done (by kernel_rfl) ?_ _
  go_wp2
  exact bodyPost_ret (v := .agg #[.bool m, .slice (some ⟨g4, 0, none⟩) 0 cap4]) (by simp [results, Tryz.results27, go_sem, hR0, hR1]) rfl ⟨((((Kept.refl w).alloc _).alloc _ |>.trans HK4.out).setCell (by simp) _).setCell (by simp) _, g4, cap4, rfl, rfl, ((((New.of_owns H4.out (HB.out.snoc (by omega))).other (by simp) _).other (by simp) _).mono (by omega))⟩
set_option maxRecDepth 100000 in
set_option maxHeartbeats 4000000 in
theorem lent_emp (m : Bool) (ad : Addr) (cap : Nat) (w : World) :
  Calls Tryz.prog 27 #[.agg #[.bool m, .slice (some ad) 0 cap]] w fun e w' => Kept w w' ∧ ∃ b cap', e = .returned (.agg #[.bool m, .slice (some ⟨b, 0, none⟩) 0 cap']) ∧ Lent w.heap.size w' b 0 cap' [] := by
 have HB : Hid (M.Bd ([] : List Nat)) := M.Bd_nil
 have hne : ¬ (w.heap.size + 1 = w.heap.size) := by omega
 have hQ0 : ((w.alloc (Obj.cells #[.bool m, .slice (some ad) 0 cap] 24)).alloc (Obj.cells #[.bool false, .slice none 0 0] 24)).cell? ⟨w.heap.size, 0, none⟩ = some (.bool m) := by simp
 have hQ1 : ((w.alloc (Obj.cells #[.bool m, .slice (some ad) 0 cap] 24)).alloc (Obj.cells #[.bool false, .slice none 0 0] 24)).cell? ⟨w.heap.size, 1, none⟩ = some (.slice (some ad) 0 cap) := by simp
 obtain ⟨i0, hi, hz0, hz1, hz2⟩ := info_parts Tryz.info40
 have hm : 0 + 1 ≤ maxLen := by unfold maxLen; omega
 go_enter Tryz.func27, Tryz.ntmps27
 go_wp2_with fail
 refine wp_region_held_drew (S := fun w' => w'.cell? ⟨w.heap.size, 0, none⟩ = some (.bool m) ∧ w'.cell? ⟨w.heap.size, 1, none⟩ = some (.slice (some ad) 0 cap)) (by kernel_rfl) ⟨hQ0, hQ1⟩ (fun hHeld => ?_)
 refine wpAnyH_take (i := 0) (v := ?v0) rfl (by kernel_rfl) (by kernel_rfl) (by kernel_rfl) (fun _ _ _ h => h) (Or.inl ⟨by rfl, ?y0⟩) hHeld ?r0
 case y0 =>
  intro w' hSw
  obtain ⟨hSw0, hSw1⟩ := hSw
  go_simp
  with_reducible rfl
 case r0 =>
 refine wpAnyH_take (i := 1) (v := ?v1) rfl (by kernel_rfl) (by kernel_rfl) (by kernel_rfl) (fun _ _ _ h => h) (Or.inl ⟨by rfl, ?y1⟩) hHeld ?r1
 case y1 =>
  intro w' hSw
  obtain ⟨hSw0, hSw1⟩ := hSw
  go_simp
  with_reducible rfl
 case r1 =>
 refine wpAnyH_take (i := 3) (v := ?v3) rfl (by kernel_rfl) (by kernel_rfl) (by kernel_rfl) (fun _ _ _ h => h) (Or.inl ⟨by rfl, ?y3⟩) hHeld ?r3
 case y3 =>
  intro w' hSw
  obtain ⟨hSw0, hSw1⟩ := hSw
  go_simp
  with_reducible rfl
 case r3 =>
 refine wpAnyH_take (i := 4) (v := ?v4) rfl (by kernel_rfl) (by kernel_rfl) (by kernel_rfl) (fun _ _ _ h => h) (Or.inl ⟨by rfl, ?y4⟩) hHeld ?r4
 case y4 =>
  intro w' hSw
  obtain ⟨hSw0, hSw1⟩ := hSw
  go_simp
  with_reducible rfl
 case r4 =>
 refine wpAnyH_take (i := 8) (v := ?v8) rfl (by kernel_rfl) (by kernel_rfl) (by kernel_rfl) (fun _ _ _ h => h) (Or.inl ⟨by rfl, ?y8⟩) hHeld ?r8
 case y8 =>
  intro w' hSw
  obtain ⟨hSw0, hSw1⟩ := hSw
  go_simp
  with_reducible rfl
 case r8 =>
 refine wpAnyH_take (i := 9) (v := ?v9) rfl (by kernel_rfl) (by kernel_rfl) (by kernel_rfl) (fun _ _ _ h => h) (Or.inl ⟨by rfl, ?y9⟩) hHeld ?r9
 case y9 =>
  intro w' hSw
  obtain ⟨hSw0, hSw1⟩ := hSw
  go_simp
  with_reducible rfl
 case r9 =>
 refine wpAnyH_take (i := 10) (v := ?v10) rfl (by kernel_rfl) (by kernel_rfl) (by kernel_rfl) (fun _ _ _ h => h) (Or.inl ⟨by rfl, ?y10⟩) hHeld ?r10
 case y10 =>
  intro w' hSw
  obtain ⟨hSw0, hSw1⟩ := hSw
  go_simp
  with_reducible rfl
 case r10 =>
 refine wpAnyH_ready (rs := [2, 6]) (by kernel_rfl) (by simp) ?_
 refine AllReadyH.cons rfl (fun K hK => ?_) ?_
 ·
  go_simp
  refine hK.out _ _ ⟨cell_kept ((Kept.refl _).alloc _) hQ0, cell_kept ((Kept.refl _).alloc _) hQ1⟩ (fun hHeld => ?_)
  clear hK K
  have HO1 : Hid ((((w.alloc (Obj.cells #[.bool m, .slice (some ad) 0 cap] 24)).alloc (Obj.cells #[.bool false, .slice none 0 0] 24)).alloc (Obj.cells #[] 40)).ownsRow (w.heap.size + 1 + 1) 40 1 (.slice (some ⟨w.heap.size + 1 + 1, 0, none⟩) 0 0) 0 []) := own_empty _ _ _ (by simp) (Nat.le_refl _)
  refine wpAnyH_ready (rs := [5, 6]) (by kernel_rfl) (by simp) ?_
  refine AllReadyH.cons rfl (fun K hK => ?_) ?_
  ·
   go_simp
   refine hK.out _ _ ⟨cell_kept ((Kept.refl _).alloc _) hQ0, cell_kept ((Kept.refl _).alloc _) hQ1⟩ (fun hHeld => ?_)
   clear hK K
   refine wpAnyH_ready (rs := [6]) (by kernel_rfl) (by simp) ?_
   refine AllReadyH.cons rfl (fun K hK => ?_) AllReadyH.nil
   go_simp
   refine hK.out _ _ ⟨cell_kept (((Kept.refl _).alloc _).alloc _) hQ0, cell_kept (((Kept.refl _).alloc _).alloc _) hQ1⟩ (fun hHeld => ?_)
   clear hK K
   have HK3 : Hid (Kept ((w.alloc (Obj.cells #[.bool m, .slice (some ad) 0 cap] 24)).alloc (Obj.cells #[.bool false, .slice none 0 0] 24)) ((((w.alloc (Obj.cells #[.bool m, .slice (some ad) 0 cap] 24)).alloc (Obj.cells #[.bool false, .slice none 0 0] 24)).alloc (Obj.cells #[] 40)).alloc (Obj.cells #[.int .u32 11259375] 40)).drew) := (((Kept.refl _).alloc _).alloc _).drew
   have H3 : Hid (((((w.alloc (Obj.cells #[.bool m, .slice (some ad) 0 cap] 24)).alloc (Obj.cells #[.bool false, .slice none 0 0] 24)).alloc (Obj.cells #[] 40)).alloc (Obj.cells #[.int .u32 11259375] 40)).drew.ownsRow (w.heap.size + 1 + 1) 40 1 (.slice (some ⟨w.heap.size + 1 + 1, 0, none⟩) 0 0) 0 []) := HO1.out.alloc _ |>.drew
   have Hm : Hid (∀ j u, ([.int .u32 11259375] : List Value)[j]? = some u → ((((w.alloc (Obj.cells #[.bool m, .slice (some ad) 0 cap] 24)).alloc (Obj.cells #[.bool false, .slice none 0 0] 24)).alloc (Obj.cells #[] 40)).alloc (Obj.cells #[.int .u32 11259375] 40)).drew.cell? ((⟨w.heap.size + 1 + 1 + 1, 0, none⟩ : Addr).add j) = some u) := mark_kept (w := ((((w.alloc (Obj.cells #[.bool m, .slice (some ad) 0 cap] 24)).alloc (Obj.cells #[.bool false, .slice none 0 0] 24)).alloc (Obj.cells #[] 40)).alloc (Obj.cells #[.int .u32 11259375] 40)).drew) (World.cell?_alloc_at _ _ _ _ (by simp)) rfl
   refine wpAnyH_ready (rs := [7]) (by kernel_rfl) (by simp) ?_
   refine AllReadyH.cons rfl (fun K hK => ?_) AllReadyH.nil
   refine step_append_lies _ rfl (.tmp 8) (.tmp 9) 22 rfl (w.heap.size + 1 + 1) 40 i0 (.int .u32 0) 1 4 Tryz.underlying22 hi hz0 hz1 hz2 rfl (by decide) (.slice (some ⟨w.heap.size + 1 + 1, 0, none⟩) 0 0) 0 [] rfl H3.out ⟨w.heap.size + 1 + 1 + 1, 0, none⟩ 1 1 [.int .u32 11259375] rfl rfl Hm.out (fun u hu => by simp at hu; subst hu; rfl) (by omega) (by omega) (by omega) (by simp) _ rfl ?_
   intro g4 cap4 W4 hown4 hgrow4 _ hlt4
   have hB4 : Below (w.heap.size + 1 + 1) ((w.alloc (Obj.cells #[.bool m, .slice (some ad) 0 cap] 24)).alloc (Obj.cells #[.bool false, .slice none 0 0] 24)) W4 := Below.grown (Below.mono HK3.out (by simp)) hgrow4 (by simp) (fun j hj => (H3.out.lt j hj).1)
   have HK4 : Hid (Kept ((w.alloc (Obj.cells #[.bool m, .slice (some ad) 0 cap] 24)).alloc (Obj.cells #[.bool false, .slice none 0 0] 24)) W4) := Below.mono hB4 (by simp)
   rw [List.nil_append, show [.int .u32 11259375] = us [11259375] from rfl] at hown4
   have H4 : Hid (W4.ownsRow (w.heap.size + 1 + 1) 40 1 (.slice (some ⟨g4, 0, none⟩) (0 + 1) cap4) (0 + 1) (us [11259375])) := hown4
   have hcap4 : 0 + 1 ≤ cap4 := by
    obtain ⟨_, ⟨h, _⟩ | ⟨_, _, _, h, _, _, h2, _⟩⟩ := hown4
    ·
     cases h
    ·
     simp only [Value.slice.injEq] at h; omega
   have hcap5 : 0 ≤ cap4 := by omega
   obtain ⟨hP0, hP1, hR0, hR1⟩ := box_kept2 HK4.out
   have hf4 := HK4.out.frozens
   refine hK.out _ _ ⟨hP0, hP1⟩ (fun _ => ?_)
   clear hK K hown4 hgrow4 hlt4 hB4
   refine wpAnyH_ready (rs := [11]) (by kernel_rfl) (by simp) ?_
   refine AllReadyH.cons rfl (fun K hK => ?_) AllReadyH.nil
   go_simp
   refine hK.out _ _ ⟨hP0, hP1⟩ (fun _ => ?_)
   clear hK K
   refine wpAnyH_ready (rs := [12]) (by kernel_rfl) (by simp) ?_
   refine AllReadyH.cons rfl (fun K hK => ?_) AllReadyH.nil
   go_simp
   refine hK.out _ _ ⟨hP0, hP1⟩ (fun _ => ?_)
   clear hK K
   refine wpAnyH_ready (rs := [13]) (by kernel_rfl) (by simp) ?_
   refine AllReadyH.cons rfl (fun K hK => ?_) AllReadyH.nil
   go_simp
   refine hK.out _ _ ⟨?_, ?_⟩ (fun _ => ?_)
   ·
    rw [World.cell?_setCell_far _ _ _ _ hne, World.cell?_setCell_far _ _ _ _ hne]; exact hP0
   ·
    rw [World.cell?_setCell_far _ _ _ _ hne, World.cell?_setCell_far _ _ _ _ hne]; exact hP1
   clear hK K
   refine wpAnyH_done (by kernel_rfl) ?_ _
   go_wp2
   exact bodyPost_ret (v := .agg #[.bool m, .slice (some ⟨g4, 0, none⟩) 0 cap4]) (by simp [results, Tryz.results27, go_sem, hR0, hR1]) rfl ⟨((((Kept.refl w).alloc _).alloc _ |>.trans HK4.out).setCell (by simp) _).setCell (by simp) _, g4, cap4, rfl, rfl, ((((New.of_owns H4.out (HB.out.snoc (by omega))).other (by simp) _).other (by simp) _).mono (by omega))⟩
  ·
   refine AllReadyH.cons rfl (fun K hK => ?_) AllReadyH.nil
   go_simp
   refine hK.out _ _ ⟨cell_kept (((Kept.refl _).alloc _).alloc _) hQ0, cell_kept (((Kept.refl _).alloc _).alloc _) hQ1⟩ (fun hHeld => ?_)
   clear hK K
   refine wpAnyH_ready (rs := [5]) (by kernel_rfl) (by simp) ?_
   refine AllReadyH.cons rfl (fun K hK => ?_) AllReadyH.nil
   go_simp
   refine hK.out _ _ ⟨cell_kept (((Kept.refl _).alloc _).alloc _) hQ0, cell_kept (((Kept.refl _).alloc _).alloc _) hQ1⟩ (fun hHeld => ?_)
   clear hK K
   have HK3 : Hid (Kept ((w.alloc (Obj.cells #[.bool m, .slice (some ad) 0 cap] 24)).alloc (Obj.cells #[.bool false, .slice none 0 0] 24)) ((((w.alloc (Obj.cells #[.bool m, .slice (some ad) 0 cap] 24)).alloc (Obj.cells #[.bool false, .slice none 0 0] 24)).alloc (Obj.cells #[] 40)).alloc (Obj.cells #[.int .u32 11259375] 40)).drew) := (((Kept.refl _).alloc _).alloc _).drew
   have H3 : Hid (((((w.alloc (Obj.cells #[.bool m, .slice (some ad) 0 cap] 24)).alloc (Obj.cells #[.bool false, .slice none 0 0] 24)).alloc (Obj.cells #[] 40)).alloc (Obj.cells #[.int .u32 11259375] 40)).drew.ownsRow (w.heap.size + 1 + 1) 40 1 (.slice (some ⟨w.heap.size + 1 + 1, 0, none⟩) 0 0) 0 []) := HO1.out.alloc _ |>.drew
   have Hm : Hid (∀ j u, ([.int .u32 11259375] : List Value)[j]? = some u → ((((w.alloc (Obj.cells #[.bool m, .slice (some ad) 0 cap] 24)).alloc (Obj.cells #[.bool false, .slice none 0 0] 24)).alloc (Obj.cells #[] 40)).alloc (Obj.cells #[.int .u32 11259375] 40)).drew.cell? ((⟨w.heap.size + 1 + 1 + 1, 0, none⟩ : Addr).add j) = some u) := mark_kept (w := ((((w.alloc (Obj.cells #[.bool m, .slice (some ad) 0 cap] 24)).alloc (Obj.cells #[.bool false, .slice none 0 0] 24)).alloc (Obj.cells #[] 40)).alloc (Obj.cells #[.int .u32 11259375] 40)).drew) (World.cell?_alloc_at _ _ _ _ (by simp)) rfl
   refine wpAnyH_ready (rs := [7]) (by kernel_rfl) (by simp) ?_
   refine AllReadyH.cons rfl (fun K hK => ?_) AllReadyH.nil
   refine step_append_lies _ rfl (.tmp 8) (.tmp 9) 22 rfl (w.heap.size + 1 + 1) 40 i0 (.int .u32 0) 1 4 Tryz.underlying22 hi hz0 hz1 hz2 rfl (by decide) (.slice (some ⟨w.heap.size + 1 + 1, 0, none⟩) 0 0) 0 [] rfl H3.out ⟨w.heap.size + 1 + 1 + 1, 0, none⟩ 1 1 [.int .u32 11259375] rfl rfl Hm.out (fun u hu => by simp at hu; subst hu; rfl) (by omega) (by omega) (by omega) (by simp) _ rfl ?_
   intro g4 cap4 W4 hown4 hgrow4 _ hlt4
   have hB4 : Below (w.heap.size + 1 + 1) ((w.alloc (Obj.cells #[.bool m, .slice (some ad) 0 cap] 24)).alloc (Obj.cells #[.bool false, .slice none 0 0] 24)) W4 := Below.grown (Below.mono HK3.out (by simp)) hgrow4 (by simp) (fun j hj => (H3.out.lt j hj).1)
   have HK4 : Hid (Kept ((w.alloc (Obj.cells #[.bool m, .slice (some ad) 0 cap] 24)).alloc (Obj.cells #[.bool false, .slice none 0 0] 24)) W4) := Below.mono hB4 (by simp)
   rw [List.nil_append, show [.int .u32 11259375] = us [11259375] from rfl] at hown4
   have H4 : Hid (W4.ownsRow (w.heap.size + 1 + 1) 40 1 (.slice (some ⟨g4, 0, none⟩) (0 + 1) cap4) (0 + 1) (us [11259375])) := hown4
   have hcap4 : 0 + 1 ≤ cap4 := by
    obtain ⟨_, ⟨h, _⟩ | ⟨_, _, _, h, _, _, h2, _⟩⟩ := hown4
    ·
     cases h
    ·
     simp only [Value.slice.injEq] at h; omega
   have hcap5 : 0 ≤ cap4 := by omega
   obtain ⟨hP0, hP1, hR0, hR1⟩ := box_kept2 HK4.out
   have hf4 := HK4.out.frozens
   refine hK.out _ _ ⟨hP0, hP1⟩ (fun _ => ?_)
   clear hK K hown4 hgrow4 hlt4 hB4
   refine wpAnyH_ready (rs := [11]) (by kernel_rfl) (by simp) ?_
   refine AllReadyH.cons rfl (fun K hK => ?_) AllReadyH.nil
   go_simp
   refine hK.out _ _ ⟨hP0, hP1⟩ (fun _ => ?_)
   clear hK K
   refine wpAnyH_ready (rs := [12]) (by kernel_rfl) (by simp) ?_
   refine AllReadyH.cons rfl (fun K hK => ?_) AllReadyH.nil
   go_simp
   refine hK.out _ _ ⟨hP0, hP1⟩ (fun _ => ?_)
   clear hK K
   refine wpAnyH_ready (rs := [13]) (by kernel_rfl) (by simp) ?_
   refine AllReadyH.cons rfl (fun K hK => ?_) AllReadyH.nil
   go_simp
   refine hK.out _ _ ⟨?_, ?_⟩ (fun _ => ?_)
   ·
    rw [World.cell?_setCell_far _ _ _ _ hne, World.cell?_setCell_far _ _ _ _ hne]; exact hP0
   ·
    rw [World.cell?_setCell_far _ _ _ _ hne, World.cell?_setCell_far _ _ _ _ hne]; exact hP1
   clear hK K
   refine wpAnyH_done (by kernel_rfl) ?_ _
   go_wp2
   exact bodyPost_ret (v := .agg #[.bool m, .slice (some ⟨g4, 0, none⟩) 0 cap4]) (by simp [results, Tryz.results27, go_sem, hR0, hR1]) rfl ⟨((((Kept.refl w).alloc _).alloc _ |>.trans HK4.out).setCell (by simp) _).setCell (by simp) _, g4, cap4, rfl, rfl, ((((New.of_owns H4.out (HB.out.snoc (by omega))).other (by simp) _).other (by simp) _).mono (by omega))⟩
 ·
  refine AllReadyH.cons rfl (fun K hK => ?_) AllReadyH.nil
  go_simp
  refine hK.out _ _ ⟨cell_kept ((Kept.refl _).alloc _) hQ0, cell_kept ((Kept.refl _).alloc _) hQ1⟩ (fun hHeld => ?_)
  clear hK K
  refine wpAnyH_ready (rs := [2]) (by kernel_rfl) (by simp) ?_
  refine AllReadyH.cons rfl (fun K hK => ?_) AllReadyH.nil
  go_simp
  refine hK.out _ _ ⟨cell_kept (((Kept.refl _).alloc _).alloc _) hQ0, cell_kept (((Kept.refl _).alloc _).alloc _) hQ1⟩ (fun hHeld => ?_)
  clear hK K
  have HO1 : Hid (((((w.alloc (Obj.cells #[.bool m, .slice (some ad) 0 cap] 24)).alloc (Obj.cells #[.bool false, .slice none 0 0] 24)).alloc (Obj.cells #[.int .u32 11259375] 40)).alloc (Obj.cells #[] 40)).ownsRow (w.heap.size + 1 + 1) 40 1 (.slice (some ⟨w.heap.size + 1 + 1 + 1, 0, none⟩) 0 0) 0 []) := own_empty _ _ _ (by simp) (by omega)
  refine wpAnyH_ready (rs := [5]) (by kernel_rfl) (by simp) ?_
  refine AllReadyH.cons rfl (fun K hK => ?_) AllReadyH.nil
  go_simp
  refine hK.out _ _ ⟨cell_kept (((Kept.refl _).alloc _).alloc _) hQ0, cell_kept (((Kept.refl _).alloc _).alloc _) hQ1⟩ (fun hHeld => ?_)
  clear hK K
  have HK3 : Hid (Kept ((w.alloc (Obj.cells #[.bool m, .slice (some ad) 0 cap] 24)).alloc (Obj.cells #[.bool false, .slice none 0 0] 24)) ((((w.alloc (Obj.cells #[.bool m, .slice (some ad) 0 cap] 24)).alloc (Obj.cells #[.bool false, .slice none 0 0] 24)).alloc (Obj.cells #[.int .u32 11259375] 40)).alloc (Obj.cells #[] 40)).drew) := (((Kept.refl _).alloc _).alloc _).drew
  have H3 : Hid (((((w.alloc (Obj.cells #[.bool m, .slice (some ad) 0 cap] 24)).alloc (Obj.cells #[.bool false, .slice none 0 0] 24)).alloc (Obj.cells #[.int .u32 11259375] 40)).alloc (Obj.cells #[] 40)).drew.ownsRow (w.heap.size + 1 + 1) 40 1 (.slice (some ⟨w.heap.size + 1 + 1 + 1, 0, none⟩) 0 0) 0 []) := HO1.out.drew
  have Hm : Hid (∀ j u, ([.int .u32 11259375] : List Value)[j]? = some u → ((((w.alloc (Obj.cells #[.bool m, .slice (some ad) 0 cap] 24)).alloc (Obj.cells #[.bool false, .slice none 0 0] 24)).alloc (Obj.cells #[.int .u32 11259375] 40)).alloc (Obj.cells #[] 40)).drew.cell? ((⟨w.heap.size + 1 + 1, 0, none⟩ : Addr).add j) = some u) := mark_kept (w := ((((w.alloc (Obj.cells #[.bool m, .slice (some ad) 0 cap] 24)).alloc (Obj.cells #[.bool false, .slice none 0 0] 24)).alloc (Obj.cells #[.int .u32 11259375] 40)).alloc (Obj.cells #[] 40)).drew) (cell_kept ((Kept.refl _).alloc _) (World.cell?_alloc_at _ _ _ _ (by simp))) rfl
  refine wpAnyH_ready (rs := [7]) (by kernel_rfl) (by simp) ?_
  refine AllReadyH.cons rfl (fun K hK => ?_) AllReadyH.nil
  refine step_append_lies _ rfl (.tmp 8) (.tmp 9) 22 rfl (w.heap.size + 1 + 1) 40 i0 (.int .u32 0) 1 4 Tryz.underlying22 hi hz0 hz1 hz2 rfl (by decide) (.slice (some ⟨w.heap.size + 1 + 1 + 1, 0, none⟩) 0 0) 0 [] rfl H3.out ⟨w.heap.size + 1 + 1, 0, none⟩ 1 1 [.int .u32 11259375] rfl rfl Hm.out (fun u hu => by simp at hu; subst hu; rfl) (by omega) (by omega) (by omega) (by simp) _ rfl ?_
  intro g4 cap4 W4 hown4 hgrow4 _ hlt4
  have hB4 : Below (w.heap.size + 1 + 1) ((w.alloc (Obj.cells #[.bool m, .slice (some ad) 0 cap] 24)).alloc (Obj.cells #[.bool false, .slice none 0 0] 24)) W4 := Below.grown (Below.mono HK3.out (by simp)) hgrow4 (by simp) (fun j hj => (H3.out.lt j hj).1)
  have HK4 : Hid (Kept ((w.alloc (Obj.cells #[.bool m, .slice (some ad) 0 cap] 24)).alloc (Obj.cells #[.bool false, .slice none 0 0] 24)) W4) := Below.mono hB4 (by simp)
  rw [List.nil_append, show [.int .u32 11259375] = us [11259375] from rfl] at hown4
  have H4 : Hid (W4.ownsRow (w.heap.size + 1 + 1) 40 1 (.slice (some ⟨g4, 0, none⟩) (0 + 1) cap4) (0 + 1) (us [11259375])) := hown4
  have hcap4 : 0 + 1 ≤ cap4 := by
   obtain ⟨_, ⟨h, _⟩ | ⟨_, _, _, h, _, _, h2, _⟩⟩ := hown4
   ·
    cases h
   ·
    simp only [Value.slice.injEq] at h; omega
  have hcap5 : 0 ≤ cap4 := by omega
  obtain ⟨hP0, hP1, hR0, hR1⟩ := box_kept2 HK4.out
  have hf4 := HK4.out.frozens
  refine hK.out _ _ ⟨hP0, hP1⟩ (fun _ => ?_)
  clear hK K hown4 hgrow4 hlt4 hB4
  refine wpAnyH_ready (rs := [11]) (by kernel_rfl) (by simp) ?_
  refine AllReadyH.cons rfl (fun K hK => ?_) AllReadyH.nil
  go_simp
  refine hK.out _ _ ⟨hP0, hP1⟩ (fun _ => ?_)
  clear hK K
  refine wpAnyH_ready (rs := [12]) (by kernel_rfl) (by simp) ?_
  refine AllReadyH.cons rfl (fun K hK => ?_) AllReadyH.nil
  go_simp
  refine hK.out _ _ ⟨hP0, hP1⟩ (fun _ => ?_)
  clear hK K
  refine wpAnyH_ready (rs := [13]) (by kernel_rfl) (by simp) ?_
  refine AllReadyH.cons rfl (fun K hK => ?_) AllReadyH.nil
  go_simp
  refine hK.out _ _ ⟨?_, ?_⟩ (fun _ => ?_)
  ·
   rw [World.cell?_setCell_far _ _ _ _ hne, World.cell?_setCell_far _ _ _ _ hne]; exact hP0
  ·
   rw [World.cell?_setCell_far _ _ _ _ hne, World.cell?_setCell_far _ _ _ _ hne]; exact hP1
  clear hK K
  refine wpAnyH_done (by kernel_rfl) ?_ _
  go_wp2
  exact bodyPost_ret (v := .agg #[.bool m, .slice (some ⟨g4, 0, none⟩) 0 cap4]) (by simp [results, Tryz.results27, go_sem, hR0, hR1]) rfl ⟨((((Kept.refl w).alloc _).alloc _ |>.trans HK4.out).setCell (by simp) _).setCell (by simp) _, g4, cap4, rfl, rfl, ((((New.of_owns H4.out (HB.out.snoc (by omega))).other (by simp) _).other (by simp) _).mono (by omega))⟩
theorem lent_any (m : Bool) (ao : Option Addr) (n cap : Nat) (l : List Nat) (w : World) (h : Sl w (.slice ao n cap) l) (hl : l.length ≤ 160) :
  Calls Tryz.prog 27 #[.agg #[.bool m, .slice ao n cap]] w fun e w' => Kept w w' ∧ ∃ b cap', e = .returned (.agg #[.bool m, .slice (some ⟨b, 0, none⟩) n cap']) ∧ Lent w.heap.size w' b n cap' l := by
 by_cases h0 : 0 < l.length
 ·
  exact lent_some m ao n cap l w h h0 hl
 ·
  have e : l = [] := List.length_eq_zero_iff.1 (by omega)
  have hn := h.len
  subst e
  subst hn
  cases ao with
  | none => exact lent_nil m cap w
  | some ad => exact lent_emp m ad cap w
theorem Lent.kept {B : Nat} {w w' : World} {b n cap : Nat} {l : List Nat} (h : Lent B w b n cap l) (k : Kept w w') : Lent B w' b n cap l := ⟨h.1, h.2.kept k⟩
theorem Lent.at {B : Nat} {w : World} {b n cap : Nat} {l : List Nat} (h : Lent B w b n cap l) : B ≤ b ∧ b < w.heap.size ∧ n + 1 ≤ cap ∧ (∀ j, j < n → w.cell? ⟨b, j, none⟩ = some (.int .u32 ((l.getD j 0 : Nat) : Int))) ∧ w.cell? ⟨b, n, none⟩ = some (.int .u32 11259375) := by
 obtain ⟨rfl, _, ⟨h, _⟩ | ⟨b', N, f, he, hB, hN, hr, hf⟩⟩ := h
 ·
  cases h
 ·
  simp only [Value.slice.injEq, Option.some.injEq, Addr.mk.injEq] at he
  obtain ⟨⟨rfl, _⟩, _, rfl⟩ := he
  simp only [List.length_append, List.length_singleton] at hN hf
  refine ⟨hB, hr.lt, hN, fun j hj => ?_, ?_⟩
  ·
   rw [hr.cell (by omega), hf j (by omega)]
   simp [List.getD_eq_getElem?_getD, List.getElem?_append_left hj]
  ·
   rw [hr.cell (by omega), hf _ (by omega)]
   simp [List.getD_eq_getElem?_getD]
theorem Lent.sl {B : Nat} {w : World} {b n cap : Nat} {l : List Nat} (h : Lent B w b n cap l) : Sl w (.slice (some ⟨b, 0, none⟩) n cap) l := by
 obtain ⟨_, h2, h3, h4, _⟩ := h.at
 have hb : M.Bd l := fun x hx => h.2.1 x (List.mem_append_left _ hx)
 have hn := h.1
 subst hn
 exact ⟨hb, _, cap, rfl, fun _ => ⟨by omega, b, 0, rfl, h2, fun j hj => by rw [Nat.zero_add]; exact h4 j hj⟩⟩
end Go.Proofs.YtblpacgfgifkcaaGreat

/- lex.take: a line that goes on; all lines. lex.take: whatever the line; lex.Lines. -/
import Derived.Test.YtbmmiepjkamaeaaDoorGad
import Derived.Deep.DeepCutAuto
import Derived.Test.YtbmmiepjkamaeaaDoorGaa
namespace Go.Proofs.YtbmmiepjkamaeaaDoor
open Go.RowKit
namespace X
theorem noPlus_ne (ws : List (List UInt8)) : (noPlus ws).length ≤ ws.length := by
 cases ws with
 | nil => exact Nat.le_refl _
 | cons w ws => rw [noPlus]; split <;> simp
set_option maxRecDepth 100000 in
set_option maxHeartbeats 4000000 in
theorem take_goes (B : Nat) (g n cap : Nat) (t0 : List Ln) (y : Ln) (vs : List Value) (lv : Value) (at' : Nat) (s : ByteArray) (w : World) (hB : B ≤ w.heap.size) (hn : n = t0.length) (hown : OwnL B w (.slice (some ⟨g, 0, none⟩) (n + 1) cap) (t0 ++ [y]) (vs ++ [lv])) (hl : n ≤ 1000000) (hs : s.size ≤ 65536) (hy : y.2.length ≤ 64)
  (hok : allOk s.data.toList = true) (hk : kindI (wordsL s.data.toList) = 1) :
  Calls Tryd.prog 15 #[.slice (some ⟨g, 0, none⟩) (n + 1) cap, .int .i64 (at' : Int), .string s] w fun e w' => Below B w w' ∧ TkIs B w' e (tk (t0 ++ [y]) at' s.data.toList) := by
 obtain ⟨⟨x, xs, hx, h43⟩, htk⟩ := tk_goes (told := t0 ++ [y]) (n := at') hok hk
 simp only [List.getLast?_concat, List.dropLast_concat] at htk
 have HT := hid' htk
 have HO := hid' (And.intro hown hn)
 have hwl : (wordsL s.data.toList).length ≤ 65537 := by
  have h1 := wd_len (said s.data.toList) []
  have h2 := (List.takeWhile_sublist (fun c => !isR c) (l := s.data.toList)).length_le
  rw [len_list] at h2
  have h3 : (said s.data.toList).length ≤ s.size := h2
  unfold wordsL
  omega
 have hwo := wordsOf_any s w (by omega)
 have hwne : ∀ x ∈ wordsL s.data.toList, x ≠ [] := wd_ne _ _
 have hnp := noPlus_ne (wordsL s.data.toList)
 have hlv := hown.own t0.length (by simp)
 rw [getD_last _ _ _ rfl, getD_last _ _ _ (by have := hown.len; simp at this; omega)] at hlv
 have hyne := hown.ne t0.length (by simp)
 rw [getD_last _ _ _ rfl] at hyne
 have hy0 : 0 < y.2.length := List.length_pos_iff.2 hyne
 have hvl : vs.length = t0.length := by simpa using hown.len
 have hlc := lnc_at (t0 ++ [y]) (vs ++ [lv]) n (by simpa using hown.len) (by simp; omega)
 rw [getD_last _ _ _ (show n = vs.length by omega)] at hlc
 obtain ⟨gl, cl, rfl, hgl⟩ := hlv.read hy0
 have hfl : ¬ g = gl := by
  intro e
  have := hown.far t0.length gl (by simp) (by rw [getD_last _ _ _ (by omega)]; rfl)
  exact this (by rw [e]; rfl)
 have HL := hid' (And.intro hlv (And.intro hyne (And.intro hvl (And.intro hlc.2 hfl))))
 clear hown hn htk hlv hyne hvl hlc hfl
 obtain ⟨i0, hi, hz0, hz1, hz2⟩ := info_parts info_str
 rw [hx] at HT hwl hwo hwne hk hnp
 have HX := hid' h43
 clear hx h43
 generalize hT : tk (t0 ++ [y]) at' s.data.toList = T at HT ⊢
 clear hT
 obtain ⟨m, hm⟩ : ∃ m, m = y.2.length := ⟨_, rfl⟩
 rw [← hm] at hy hy0
 have HM := hid' hm
 clear hgl
 rw [← hm] at HL HO
 clear hm
 have n1 : ((n : Int) + 1 - 1) = (n : Int) := by omega
 have n2 : IntKind.i64.wrap (n : Int) = (n : Int) := by rw [IntKind.wrap_i64]; omega
 have n3 : (n : Int) < (n : Int) + 1 := by omega
 have n4 : (0 : Int) ≤ (n : Int) := by omega
 have n5 : ¬ (n : Int) + 1 = 0 := by omega
 have n6 : ((n : Int) + 1 == 0) = false := by simpa using n5
 go_enter Tryd.func15, Tryd.ntmps15
 go_wp2_with fail
 refine (right_any s _ (by omega)).mono ?_
 rintro e w1 ⟨rfl, rfl⟩
 rw [hok]
 go_wp2_with fail
 refine hwo.mono ?_
 rintro e w2 ⟨hk2, wv, rfl, own2⟩
 have HW := hid' (And.intro hk2 own2)
 clear hk2 own2 hwo
 go_wp2_with fail
 refine (kindOf_any _ _ (x :: xs) _ HW.out.2 hwne (by omega)).mono ?_
 rintro e w3 ⟨rfl, rfl⟩
 rw [hk]
 go_upto_region 12 with fail
 have hO3 := HO.out.1.kept HW.out.1
 have HO3 := hid' hO3
 have hc3 := owns_cell (by have := hO3.row; simp only [List.length_append, List.length_singleton] at this; rw [← HO.out.2] at this; exact this) HL.out.2.2.2.1
 have hz3 := owns_frozen (by have := hO3.row; simp only [List.length_append, List.length_singleton] at this; rw [← HO.out.2] at this; exact this) (n * 2 + 1)
 have hgw : g < w1.heap.size := (HO.out.1.row.lt g rfl).2
 have hglw : gl < w1.heap.size := (HL.out.1.lt gl rfl).2
 have sS := hid' (fun (V : World) (K : ∀ b, b < w1.heap.size → ¬ b = gl → V.heap[b]? = w3.heap[b]?) => (show V.cell? ⟨g, n * 2 + 1, none⟩ = some (.slice (some ⟨gl, 0, none⟩) m cl) from (World.cell?_of_block (a := ⟨g, n * 2 + 1, none⟩) (K g hgw HL.out.2.2.2.2)).trans hc3))
 have KT : ∀ b, b < w1.heap.size → ¬ b = gl → w3.drew.heap[b]? = w3.heap[b]? := fun _ _ _ => rfl
 have hW := HW.out.2
 clear hO3
 refine region_z 10 (S := fun w' => w'.cell? ⟨g, n * 2 + 1, none⟩ = some (.slice (some ⟨gl, 0, none⟩) m cl)) (by kernel_rfl) (sS.out _ KT) (fun hHeld => ?_)
 refine anyZ_take (i := 0) (v := ?v0) rfl (by kernel_rfl) (by kernel_rfl) (by kernel_rfl) (by kernel_rfl) (fun _ _ _ h => h) (Or.inl ⟨by rfl, ?y0⟩) hHeld ?r0
 case y0 =>
  intro w' hSw
  go_simp
  with_reducible rfl
 case r0 =>
 refine anyZ_take (i := 1) (v := ?v1) rfl (by kernel_rfl) (by kernel_rfl) (by kernel_rfl) (by kernel_rfl) (fun _ _ _ h => h) (Or.inl ⟨by rfl, ?y1⟩) hHeld ?r1
 case y1 =>
  intro w' hSw
  go_simp
  with_reducible rfl
 case r1 =>
 refine anyZ_take (i := 2) (v := ?v2) rfl (by kernel_rfl) (by kernel_rfl) (by kernel_rfl) (by kernel_rfl) (fun _ _ _ h => h) (Or.inl ⟨by rfl, ?y2⟩) hHeld ?r2
 case y2 =>
  intro w' hSw
  go_simp
  with_reducible rfl
 case r2 =>
 refine anyZ_take (i := 3) (v := ?v3) rfl (by kernel_rfl) (by kernel_rfl) (by kernel_rfl) (by kernel_rfl) (fun _ _ _ h => h) (Or.inl ⟨by rfl, ?y3⟩) hHeld ?r3
 case y3 =>
  intro w' hSw
  go_simp
  with_reducible rfl
 case r3 =>
 refine anyZ_take (i := 4) (v := ?v4) rfl (by kernel_rfl) (by kernel_rfl) (by kernel_rfl) (by kernel_rfl) (fun _ _ _ h => h) (Or.inl ⟨by rfl, ?y4⟩) hHeld ?r4
 case y4 =>
  intro w' hSw
  go_simp
  with_reducible rfl
 case r4 =>
 refine anyZ_take (i := 5) (v := ?v5) rfl (by kernel_rfl) (by kernel_rfl) (by kernel_rfl) (by kernel_rfl) (fun _ _ _ h => h) (Or.inl ⟨by rfl, ?y5⟩) hHeld ?r5
 case y5 =>
  intro w' hSw
  go_simp
  with_reducible rfl
 case r5 =>
 refine anyZ_ready (rs := [6]) (by kernel_rfl) (by simp) ?_
 refine AllZ.cons rfl (fun K hK => ?_) AllZ.nil
 go_simp
 refine (withoutPlus_any _ wv x xs _ (show OwnS w1.heap.size w3.drew wv (x :: xs) from hW) HX.out (by omega)).mono ?_
 rintro e w4 ⟨hsz4, hb4, hf4, u, rfl, hR⟩
 have hwf : ∀ b, wv.ownBlock = some b → w1.heap.size ≤ b := fun b hb => (hW.lt b hb).1
 have KT : ∀ b, b < w1.heap.size → ¬ b = gl → w4.heap[b]? = w3.heap[b]? := fun b hb _ => hf4 b (Nat.lt_of_lt_of_le hb HW.out.1.size) (fun e => by have := hwf b e; omega)
 have hblk4 : ∀ b, b < w1.heap.size → w4.heap[b]? = w1.heap[b]? := fun b hb => (hf4 b (Nat.lt_of_lt_of_le hb HW.out.1.size) (fun e => by have := hwf b e; omega)).trans (HW.out.1.block b hb)
 refine hK.out _ _ (sS.out _ KT) (fun hHeld => ?_)
 clear hK K
 have HR := hid' hR
 obtain ⟨ua, uc, rfl, hRr⟩ := hR
 obtain ⟨k, hkk⟩ : ∃ k, k = (noPlus (x :: xs)).length := ⟨_, rfl⟩
 rw [← hkk] at hRr HR hnp ⊢
 have HKK := hid' hkk
 clear hkk
 have hm63 : m + k ≤ maxLen := by unfold maxLen; omega
 have hmc : m ≤ cl := (row_of_owns (by have := HL.out.1; unfold OwnS at this; rw [← HM.out] at this; exact this)).2.1
 have hk4 : Below B w1 w4 := Below.trans (Below.mono HW.out.1 hB).drew (Below.mono hb4 hB)
 have hB4 : B ≤ w4.heap.size := Nat.le_trans hB hk4.size
 have hO4 : OwnS B w4 (.slice (some ⟨gl, 0, none⟩) m cl) y.2 := owns_block (HL.out.1.kept HW.out.1) (fun b hb => hf4 b (by
  have e : gl = b := by simpa [Value.ownBlock] using hb
  have := HW.out.1.size
  have h3 : w3.drew.heap.size = w3.heap.size := rfl
  omega) (fun e => by
  have e' : gl = b := by simpa [Value.ownBlock] using hb
  have := hwf b e
  omega))
 refine anyZ_ready (rs := [7]) (by kernel_rfl) (by simp) ?_
 refine AllZ.cons rfl (fun K hK => ?_) AllZ.nil
 refine step_app rfl (.tmp 40) (.tmp 42) 30 rfl B 9 i0 (.string ByteArray.empty) 1 16 und_strs hi hz0 hz1 hz2 rfl (by decide) gl m cl (strs y.2) rfl (by have := hO4; unfold OwnS at this; rw [← HM.out] at this; exact this) hmc ua k uc (strs (noPlus (x :: xs))) rfl (by rw [strs_len, ← HKK.out]) (fun h0 => ?hnews) (strs_one _) hm63 (by omega) hB4 ?_
 case hnews =>
  obtain ⟨b, off, rfl, _, _, hcc⟩ := hRr h0
  refine ⟨_, rfl, fun j u hu => ?_⟩
  have hj := (List.getElem?_eq_some_iff.1 hu).1
  rw [strs_len, Nat.mul_one, ← HKK.out] at hj
  rw [Addr.add_lit, hcc j hj]
  rw [strs_at _ j (by rw [← HKK.out]; exact hj)] at hu
  exact hu
 intro gl' cl' w5 hown5 hg5 hgl5
 have KT : ∀ b, b < w1.heap.size → ¬ b = gl → w5.heap[b]? = w3.heap[b]? := fun b hb hne => (hg5.block b (Nat.lt_of_lt_of_le hb hk4.size) (fun e => hne (by simpa using e))).trans (KT b hb hne)
 refine hK.out _ _ (sS.out _ KT) (fun hHeld => ?_)
 clear hK K
 refine anyZ_ready (rs := [8]) (by kernel_rfl) (by simp) ?_
 refine AllZ.cons rfl (fun K hK => ?_) AllZ.nil
 go_simp
 refine hK.out _ _ (sS.out _ KT) (fun hHeld => ?_)
 clear hK K
 refine anyZ_take (i := 9) (v := ?v9) rfl (by kernel_rfl) (by kernel_rfl) (by kernel_rfl) (by kernel_rfl) (fun _ _ _ h => h) (Or.inl ⟨by rfl, ?y9⟩) hHeld ?r9
 case y9 =>
  intro w' hSw
  go_simp
  with_reducible rfl
 case r9 =>
 have hz5 : w5.frozen? ⟨g, n * 2 + 1, none⟩ = false := (World.frozen?_of_block (a := ⟨g, n * 2 + 1, none⟩) (KT g hgw HL.out.2.2.2.2)).trans hz3
 refine anyZ_ready (rs := [10]) (by kernel_rfl) (by simp) ?_
 refine AllZ.last rfl (fun K hK => ?_)
 go_simp
 refine hK.out _ _ ?_
 clear hK K
 refine anyZ_done (by kernel_rfl) ?_ _
 have HN : Hid (Below B w1 (w5.setCell ⟨g, n * 2 + 1, none⟩ (.slice (some ⟨gl', 0, none⟩) (m + k) cl')) ∧ OwnL B (w5.setCell ⟨g, n * 2 + 1, none⟩ (.slice (some ⟨gl', 0, none⟩) (m + k) cl')) (.slice (some ⟨g, 0, none⟩) (n + 1) cap) (t0 ++ [(y.1, y.2 ++ noPlus (x :: xs))]) (vs ++ [.slice (some ⟨gl', 0, none⟩) (m + k) cl'])) := by
  have hO4' : OwnL B w4 (.slice (some ⟨g, 0, none⟩) (n + 1) cap) (t0 ++ [y]) (vs ++ [.slice (some ⟨gl, 0, none⟩) m cl]) := OwnL.blocks HO.out.1 hblk4
  have hgB : B ≤ g := (HO.out.1.row.lt g rfl).1
  have hglB : B ≤ gl := (HL.out.1.lt gl rfl).1
  refine ⟨(Below.grown hk4 hg5 hB4 (fun j hj => by simp only [Option.some.injEq] at hj; omega)).setCell (p := ⟨g, n * 2 + 1, none⟩) hgB _, ?_⟩
  rw [HO.out.2] at hO4' ⊢
  have hw5 : OwnS B w5 (.slice (some ⟨gl', 0, none⟩) (m + k) cl') (y.2 ++ noPlus (x :: xs)) := by
   unfold OwnS
   rw [strs_app, List.length_append, ← HM.out, ← HKK.out]
   exact hown5
  refine OwnL.last rfl hO4' hw5 (by simp [HL.out.2.1]) hg5 (fun b hb => ?_)
  have e : gl' = b := by simpa [Value.ownBlock] using hb
  rcases hgl5 with h | h
  ·
   left; rw [← e, ← h]; rfl
  ·
   right; omega
 have hcn : (w5.setCell ⟨g, n * 2 + 1, none⟩ (.slice (some ⟨gl', 0, none⟩) (m + k) cl')).cell? ⟨g, n * 2 + 1, none⟩ = some (.slice (some ⟨gl', 0, none⟩) (m + k) cl') := World.cell?_setCell_same _ _ _ hHeld
 generalize w5.setCell ⟨g, n * 2 + 1, none⟩ (.slice (some ⟨gl', 0, none⟩) (m + k) cl') = W6 at HN hcn ⊢
 have HKM := hid' (show (y.2 ++ noPlus (x :: xs)).length = m + k by rw [List.length_append, ← HM.out, ← HKK.out])
 clear hHeld KT hown5 hg5 hgl5 hz5 sS hRr HR hc3 hz3
 by_cases h6 : 64 < m + k
 ·
  have h6' : (64 : Int) < (m : Int) + (k : Int) := by omega
  go_wp2_with fail
  go_ret2
  refine ⟨HN.out.1, ?_⟩
  rw [HT.out, HKM.out, if_pos h6]
  exact rfl
 ·
  have h6' : ¬ (64 : Int) < (m : Int) + (k : Int) := by omega
  go_wp2_with fail
  go_ret2
  refine ⟨HN.out.1, ?_⟩
  rw [HT.out, HKM.out, if_neg h6]
  exact ⟨_, _, rfl, HN.out.2⟩
end X
end Go.Proofs.YtbmmiepjkamaeaaDoor

namespace Go.Proofs.YtbmmiepjkamaeaaDoor
open Go.RowKit
namespace X
set_option maxRecDepth 100000 in
set_option maxHeartbeats 4000000 in
theorem take_bad (v : Value) (at' : Nat) (s : ByteArray) (w : World) (hs : s.size ≤ 65536) (hok : allOk s.data.toList = false) :
  Calls Tryd.prog 15 #[v, .int .i64 (at' : Int), .string s] w fun e w' => w' = w ∧ e = .returned (.tuple #[.slice none 0 0, .int .i64 60]) := by
 go_enter Tryd.func15, Tryd.ntmps15
 go_wp2_with fail
 refine (right_any s _ (by omega)).mono ?_
 rintro e w1 ⟨rfl, rfl⟩
 rw [hok]
 go_wp2_with fail
 go_ret2
 exact ⟨rfl, rfl⟩
theorem words_len {s : ByteArray} (hs : s.size ≤ 65536) : (wordsL s.data.toList).length ≤ 65537 := by
 have h1 := wd_len (said s.data.toList) []
 have h2 := (List.takeWhile_sublist (fun c => !isR c) (l := s.data.toList)).length_le
 rw [len_list] at h2
 have h3 : (said s.data.toList).length ≤ s.size := h2
 unfold wordsL
 omega
set_option maxRecDepth 100000 in
set_option maxHeartbeats 4000000 in
theorem take_no (v : Value) (at' : Nat) (s : ByteArray) (w : World) (hs : s.size ≤ 65536) (hok : allOk s.data.toList = true) (hk : kindI (wordsL s.data.toList) = 0) :
  Calls Tryd.prog 15 #[v, .int .i64 (at' : Int), .string s] w fun e w' => Kept w w' ∧ e = .returned (.tuple #[v, .int .i64 0]) := by
 have hwl := words_len hs
 have hwo := wordsOf_any s w (by omega)
 have hwne : ∀ x ∈ wordsL s.data.toList, x ≠ [] := wd_ne _ _
 generalize wordsL s.data.toList = ws at hwl hwo hwne hk
 go_enter Tryd.func15, Tryd.ntmps15
 go_wp2_with fail
 refine (right_any s _ (by omega)).mono ?_
 rintro e w1 ⟨rfl, rfl⟩
 rw [hok]
 go_wp2_with fail
 refine hwo.mono ?_
 rintro e w2 ⟨hk2, wv, rfl, own2⟩
 have HW := hid' (And.intro hk2 own2)
 clear hk2 own2 hwo
 go_wp2_with fail
 refine (kindOf_any _ _ ws _ HW.out.2 hwne (by omega)).mono ?_
 rintro e w3 ⟨rfl, rfl⟩
 rw [hk]
 go_wp2_with fail
 go_ret2
 exact ⟨HW.out.1, rfl⟩
set_option maxRecDepth 100000 in
set_option maxHeartbeats 4000000 in
theorem take_first (ao : Option Addr) (c : Nat) (at' : Nat) (s : ByteArray) (w : World) (hs : s.size ≤ 65536) (hok : allOk s.data.toList = true) (hk : kindI (wordsL s.data.toList) = 1) :
  Calls Tryd.prog 15 #[.slice ao 0 c, .int .i64 (at' : Int), .string s] w fun e w' => Kept w w' ∧ e = .returned (.tuple #[.slice none 0 0, .int .i64 61]) := by
 have hwl := words_len hs
 have hwo := wordsOf_any s w (by omega)
 have hwne : ∀ x ∈ wordsL s.data.toList, x ≠ [] := wd_ne _ _
 generalize wordsL s.data.toList = ws at hwl hwo hwne hk
 go_enter Tryd.func15, Tryd.ntmps15
 go_wp2_with fail
 refine (right_any s _ (by omega)).mono ?_
 rintro e w1 ⟨rfl, rfl⟩
 rw [hok]
 go_wp2_with fail
 refine hwo.mono ?_
 rintro e w2 ⟨hk2, wv, rfl, own2⟩
 have HW := hid' (And.intro hk2 own2)
 clear hk2 own2 hwo
 go_wp2_with fail
 refine (kindOf_any _ _ ws _ HW.out.2 hwne (by omega)).mono ?_
 rintro e w3 ⟨rfl, rfl⟩
 rw [hk]
 go_wp2_with fail
 go_ret2
 exact ⟨HW.out.1, rfl⟩
theorem take_any (B : Nat) (v : Value) (told : List Ln) (vs : List Value) (at' : Nat) (s : ByteArray) (w : World) (hB : B ≤ w.heap.size) (hown : OwnL B w v told vs) (hl : told.length ≤ 100000) (hs : s.size ≤ 65536) (hle : ∀ x ∈ told, OkS x.2) :
  Calls Tryd.prog 15 #[v, .int .i64 (at' : Int), .string s] w fun e w' => Below B w w' ∧ TkIs B w' e (tk told at' s.data.toList) := by
 by_cases hok : allOk s.data.toList = true
 ·
  obtain ⟨ao, cap, rfl⟩ := hown.shape
  rcases kindI_cases (wordsL s.data.toList) with hk | hk | hk
  ·
   refine (take_no _ at' s w hs hok hk).mono ?_
   rintro e w' ⟨hk', rfl⟩
   refine ⟨Below.mono hk' hB, ?_⟩
   rw [tk_no hok hk]
   exact ⟨_, _, rfl, hown.kept hk'⟩
  ·
   rcases List.eq_nil_or_concat told with rfl | ⟨t0, y, rfl⟩
   ·
    refine (take_first ao cap at' s w hs hok hk).mono ?_
    rintro e w' ⟨hk', rfl⟩
    refine ⟨Below.mono hk' hB, ?_⟩
    rw [(tk_goes (told := []) (n := at') hok hk).2]
    exact rfl
   ·
    rw [List.concat_eq_append] at *
    rw [show (t0 ++ [y]).length = t0.length + 1 by simp] at *
    obtain ⟨vs0, lv, rfl⟩ : ∃ vs0 lv, vs = vs0 ++ [lv] := by
     rcases List.eq_nil_or_concat vs with rfl | ⟨a, b, rfl⟩
     ·
      have := hown.len; simp at this
     ·
      exact ⟨a, b, by simp⟩
    obtain ⟨g, rfl⟩ : ∃ g, ao = some ⟨g, 0, none⟩ := by
     obtain ⟨_, ⟨h2, _⟩ | ⟨g, cap', cur, h2, _⟩⟩ := hown.row
     ·
      simp at h2
     ·
      simp only [Value.slice.injEq] at h2
      exact ⟨g, h2.1⟩
    exact take_goes B g t0.length cap t0 y vs0 lv at' s w hB rfl hown (by omega) hs (hle y (by simp)).2.1 hok hk
  ·
   exact take_begins B ao told.length cap told vs at' s w hB rfl hown (by omega) hs hok hk
 ·
  have hok : allOk s.data.toList = false := by simpa using hok
  refine (take_bad v at' s w hs hok).mono ?_
  rintro e w' ⟨rfl, rfl⟩
  refine ⟨Below.refl _ _, ?_⟩
  unfold tk
  rw [if_pos (show s.data.toList.all okB = false from hok)]
  exact rfl
theorem cut10_sum (L : List UInt8) : ∀ p ∈ cut10 L, p.length ≤ L.length := by
 induction L with
 | nil => intro p hp; simp [cut10] at hp; subst hp; simp
 | cons c L ih =>
  by_cases h : isN c = true
  ·
   rw [cut10_cons_yes h]
   intro p hp
   rcases List.mem_cons.1 hp with rfl | hp
   ·
    simp
   ·
    exact Nat.le_succ_of_le (ih p hp)
  ·
   rcases ha : cut10 L with _ | ⟨q, qs⟩
   ·
    exact absurd ha (cut10_ne L)
   ·
    rw [cut10_cons_no (by simpa using h) L ha]
    rw [ha] at ih
    intro p hp
    rcases List.mem_cons.1 hp with rfl | hp
    ·
     have := ih q (by simp)
     simpa using this
    ·
     exact Nat.le_succ_of_le (ih p (by simp [hp]))
theorem pieces_sub (L : List UInt8) : ∀ p ∈ piecesL L, p ∈ cut10 L := by
 unfold piecesL
 split
 ·
  intro p hp; exact (List.dropLast_sublist _).subset hp
 ·
  exact fun p hp => hp
theorem owns_mono {w : World} {B B' : Nat} {e : TypeId} {sz n : Nat} {v : Value} {xs : List Value} (h : w.ownsRow B e sz v n xs) (hB : B' ≤ B) : w.ownsRow B' e sz v n xs := by
 obtain ⟨h1, h2 | ⟨g, cap, cur, h2, h3, h4⟩⟩ := h
 ·
  exact ⟨h1, .inl h2⟩
 ·
  exact ⟨h1, .inr ⟨g, cap, cur, h2, by omega, h4⟩⟩
theorem OwnL.mono {B B' : Nat} {w : World} {v : Value} {told : List Ln} {vs : List Value} (h : OwnL B w v told vs) (hB : B' ≤ B) : OwnL B' w v told vs :=
 ⟨h.len, owns_mono h.row hB, fun i hi => owns_mono (h.own i hi) hB, h.ne, h.far, h.dis⟩
def LnIs (B : Nat) (w : World) (e : Ending) (r : List Ln × Nat × Nat) : Prop := ∃ v vs, e = .returned (.tuple #[v, .int .i64 (r.2.1 : Int), .int .i64 (r.2.2 : Int)]) ∧ OwnL B w v r.1 vs
structure LnI (w wr : World) (P : List (List UInt8)) (v : Value) (k : Nat) (told : List Ln) (vs : List Value) : Prop where
 kp : Kept w wr
 own : OwnL w.heap.size wr v told vs
 ok : ∀ x ∈ told, OkS x.2
 cnt : told.length ≤ k
 eq : go [] 0 P = go told k (P.drop k)
theorem tk_len {told t : List Ln} {n : Nat} {l : List UInt8} (h : tk told n l = .ok t) : t.length ≤ told.length + 1 := by
 unfold tk at h
 split at h
 ·
  cases h
 ·
  split at h
  ·
   cases h; omega
  ·
   split at h
   ·
    cases h
   ·
    cases h; simp
  ·
   rcases List.eq_nil_or_concat told with rfl | ⟨t0, y, rfl⟩
   ·
    cases h
   ·
    simp only [List.concat_eq_append, List.getLast?_concat, List.dropLast_concat] at h
    split at h
    ·
     cases h
    ·
     cases h; simp
set_option maxRecDepth 100000 in
set_option maxHeartbeats 4000000 in
theorem lines_any (s : ByteArray) (w : World) (hs : s.size ≤ 9223372036854775807) : Calls Tryd.prog 9 #[.string s] w fun e w' => Kept w w' ∧ LnIs w.heap.size w' e (linesOf s.data.toList) := by
 by_cases hlong : 65536 < s.size
 ·
  have hz : (65536 : Int) < (s.size : Int) := by omega
  have HL := hid' (lines_long (T := s.data.toList) (by rw [len_list]; exact hlong))
  go_enter Tryd.func9, Tryd.ntmps9
  go_wp2_with fail
  go_ret3
  refine ⟨Kept.refl _, ?_⟩
  rw [HL.out]
  exact ⟨_, [], rfl, OwnL.nil _ _⟩
 ·
  have hz : ¬ (65536 : Int) < (s.size : Int) := by omega
  have hp := pieces_any s w (by omega)
  have HL := hid' (And.intro (show linesOf s.data.toList = go [] 0 (piecesL s.data.toList) from if_neg (by rw [len_list]; exact hlong)) (fun p (h : p ∈ piecesL s.data.toList) => Nat.le_trans (cut10_sum _ p (pieces_sub _ p h)) (show s.data.toList.length ≤ 65536 by rw [len_list]; omega)))
  generalize piecesL s.data.toList = P at hp HL
  generalize linesOf s.data.toList = R at HL ⊢
  go_enter Tryd.func9, Tryd.ntmps9
  go_wp2_with fail
  refine hp.mono ?_
  rintro e w1 ⟨hk, g, n, c, rfl, hn, hn2, hg, hgl, hcell⟩
  have HC := hid' (And.intro hk (And.intro hn (And.intro hg (And.intro hgl hcell))))
  clear hk hn hg hgl hcell hp
  go_wp2_with fail
  go_loopw [5, 15] (fun v5 vi wr => ∃ (k : Nat) (told : List Ln) (vs : List Value), k ≤ n ∧ vi = .int .i64 (k : Int) ∧ Hid (LnI w1 wr P v5 k told vs)) (fun _ vi _ => n - (intOf vi).toNat)
  case atStart => exact ⟨0, [], [], Nat.zero_le _, rfl, Kept.refl _, OwnL.nil _ _, fun x hx => by simp at hx, Nat.le_refl _, by simp⟩
  case round =>
   obtain ⟨k, told, vs, hk, rfl, H⟩ := hrel
   by_cases hlt : k < n
   ·
    have hi : (k : Int) < (n : Int) := by omega
    have hPk : k < P.length := by rw [← HC.out.2.1]; exact hlt
    have hc : wr.cell? ⟨g, k, none⟩ = some (.string (bs (P.getD k []))) := (Below.cell H.out.kp (p := ⟨g, k, none⟩) HC.out.2.2.2.1).trans (HC.out.2.2.2.2 k hlt)
    have hsz : (bs (P.getD k [])).size ≤ 65536 := by
     rw [bs_size]
     refine HL.out.2 _ ?_
     rw [List.getD_eq_getElem?_getD, List.getElem?_eq_getElem hPk]
     exact List.getElem_mem hPk
    have hgo : P.drop k = P.getD k [] :: P.drop (k + 1) := by
     rw [List.drop_eq_getElem_cons hPk, List.getD_eq_getElem?_getD, List.getElem?_eq_getElem hPk]; rfl
    have heq := H.out.eq
    rw [hgo, go] at heq
    have ht := take_any w1.heap.size u5 told vs (k + 1) (bs (P.getD k [])) wr H.out.kp.size H.out.own (by have := H.out.cnt; omega) hsz H.out.ok
    rw [show ((k + 1 : Nat) : Int) = (k : Int) + 1 by omega, bs_list] at ht
    generalize P.getD k [] = p at hc hsz hgo ht heq
    have HE := hid' heq
    clear heq hgo
    go_wp2_with fail
    refine ht.mono ?_
    rintro e w2 ⟨hb, hT⟩
    have HB := hid' (show Kept w1 w2 from Below.trans H.out.kp hb)
    clear ht hb hc
    rcases htk : tk told (k + 1) p with x | t
    ·
     rw [htk] at hT
     have hx := tk_err htk
     have hT : e = .returned (.tuple #[.slice none 0 0, .int .i64 (x : Int)]) := hT
     subst hT
     have HR := hid' (show R = ([], k + 1, x) by rw [HL.out.1, HE.out, htk])
     have x0 : ¬ (x : Int) = 0 := by omega
     have x1 : ((x : Int) == 0) = false := by simpa using x0
     clear hx htk
     go_wp2_with fail
     go_ret3
     refine ⟨HC.out.1.trans HB.out, ?_⟩
     rw [HR.out]
     exact ⟨_, [], rfl, OwnL.nil _ _⟩
    ·
     rw [htk] at hT
     obtain ⟨v', vs', rfl, own'⟩ := hT
     have HN : Hid (LnI w1 w2 P v' (k + 1) t vs') := ⟨HB.out, own', tk_ok H.out.ok htk, by have := tk_len htk; have := H.out.cnt; omega, by rw [HE.out, htk]⟩
     clear own' htk
     go_wp2_with fail
     go_roundw
     case rel => exact ⟨k + 1, t, vs', by omega, by go_num, HN.out⟩
     case measure => show n - ((k : Int) + 1).toNat < n - (k : Int).toNat; omega
   ·
    have hi : ¬ (k : Int) < (n : Int) := by omega
    have HR : Hid (R = (told, 0, 0)) := by
     rw [HL.out.1, H.out.eq, List.drop_of_length_le (by rw [← HC.out.2.1]; omega)]
     rfl
    go_wp2_with fail
    go_ret3
    refine ⟨HC.out.1.trans H.out.kp, ?_⟩
    rw [HR.out]
    exact ⟨_, vs, rfl, H.out.own.mono HC.out.1.size⟩
end X
end Go.Proofs.YtbmmiepjkamaeaaDoor

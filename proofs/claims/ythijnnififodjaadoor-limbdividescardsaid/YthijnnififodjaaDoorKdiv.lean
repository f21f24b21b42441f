/- divideLong of limb: the long division, limb by limb from the top. -/
import Derived.Test.YthijnnififodjaaDoorKlz
namespace Go.Proofs.YthijnnififodjaaDoor
open Go.RowKit

theorem make_diff (m n L : Nat) (h : m = n + L) (hL : L ≤ 1000000) (w : World) :
    (Instr.makeSlice 22 (.int .i64 ((m : Int) - (n : Int))) (.int .i64 ((m : Int) - (n : Int)))).run Tryd.prog w = .ok (.slice (some ⟨w.heap.size, 0, none⟩) L L) (w.alloc (.cells (madeCells #[.int .u32 0] L) 43)) := by
  have e : (m : Int) - (n : Int) = (L : Int) := by omega
  rw [e]
  exact make_limbs L hL w

theorem row_zeros (w : World) (n : Nat) : (w.alloc (.cells (madeCells #[.int .u32 0] n) 43)).rowIs w.heap.size 43 n (fun j => .int .u32 (((List.replicate n 0).getD j 0 : Nat) : Int)) :=
  (row_made w n).congr (fun j _ => by
    rw [List.getD_eq_getElem?_getD, List.getD_eq_getElem?_getD, List.getElem?_replicate]
    split <;> simp)

set_option maxRecDepth 100000 in
set_option maxHeartbeats 4000000 in
theorem divideLong_any (aoa aob : Option Addr) (capa capb : Nat) (a b : List Nat) (w : World) (ha : Sl w (.slice aoa a.length capa) a) (hb : Sl w (.slice aob b.length capb) b) (hla : a.length ≤ 900) (hab : b.length ≤ a.length) (hb2 : 2 ≤ b.length) (tb : M.Tr b) :
    Calls Tryd.prog 47 #[.slice aoa a.length capa, .slice aob b.length capb] w fun e w' => Kept w w' ∧ DivIs w.heap.size w' e a b := by
  have HA : Hid (Sl w (.slice aoa a.length capa) a) := ha
  have HB : Hid (Sl w (.slice aob b.length capb) b) := hb
  have bda := ha.bd
  have bdb := hb.bd
  obtain ⟨bb, ob, rfl, hckb, htop0⟩ : ∃ bb ob, aob = some ⟨bb, ob, none⟩ ∧ w.cell? ⟨bb, ob + (b.length - 1), none⟩ = some (.int .u32 ((b.getD (b.length - 1) 0 : Nat) : Int)) ∧ 0 < b.getD (b.length - 1) 0 := by
    obtain ⟨_, ao', cap', he, hx⟩ := hb
    simp only [Value.slice.injEq] at he
    obtain ⟨rfl, _, rfl⟩ := he
    obtain ⟨_, b', off, rfl, _, hc⟩ := hx (by omega)
    refine ⟨b', off, rfl, hc (b.length - 1) (by omega), ?_⟩
    rcases tb with h | h <;> omega
  have htop1 := bdb.getD (b.length - 1)
  obtain ⟨x, hx⟩ : ∃ x, x = b.getD (b.length - 1) 0 := ⟨_, rfl⟩
  rw [← hx] at hckb htop0 htop1
  have HX : Hid (x = b.getD (b.length - 1) 0) := hx
  obtain ⟨la, hla'⟩ : ∃ la, la = a.length := ⟨_, rfl⟩
  obtain ⟨lb, hlb'⟩ : ∃ lb, lb = b.length := ⟨_, rfl⟩
  rw [← hlb'] at hckb hab hb2
  rw [← hla'] at hla hab
  rw [← hla', ← hlb']
  have HL : Hid (la = a.length ∧ lb = b.length) := ⟨hla', hlb'⟩
  clear hx hla' hlb' ha hb tb
  have hb1 : 1 ≤ lb := by omega
  go_enter Tryd.func47, Tryd.ntmps47
  go_wp2_with fail
  refine (lz_any x _ htop0 htop1).mono ?_
  rintro e w0 ⟨rfl, s, rfl, hs, hs1, hs2⟩
  have HSX : Hid (2147483648 ≤ x * 2 ^ s ∧ x * 2 ^ s < 4294967296) := ⟨hs1, hs2⟩
  clear hs1 hs2 hckb htop0 htop1
  obtain ⟨S, hS⟩ : ∃ S, S = 2 ^ s := ⟨_, rfl⟩
  have HSS : Hid (S = 2 ^ s) := hS
  clear hS
  -- the divisor
  go_wp2_with fail
  have hc1 := shiftLeft_any (some ⟨bb, ob, none⟩) capb b s w0 HB.out (by have := HL.out; omega) hs
  rw [← HL.out.2, ← HSS.out] at hc1
  refine hc1.mono ?_
  rintro e w1 ⟨hk1, b1, N1, p, rfl, hn1, hl1, hv1⟩
  clear hc1
  obtain ⟨_, hB1, hN1, f1, hw1⟩ := hn1.win
  obtain ⟨n, rfl⟩ : ∃ n, lb = n + 1 := ⟨lb - 1, by omega⟩
  obtain ⟨hd1, hd2, hd3⟩ := shifted_divisor (x := x) HSS.out hs bdb HL.out.2.symm (by have := HX.out; rw [← HL.out.2] at this; exact this) hw1.bd hl1 hv1 (by rw [HSS.out]; exact HSX.out.1) (by rw [HSS.out]; exact HSX.out.2)
  obtain ⟨d, hd⟩ : ∃ d, d = p.take (n + 1) := ⟨_, rfl⟩
  rw [← hd] at hd1 hd2 hd3
  have HD : Hid (Sl w1 (.slice (some ⟨b1, 0, none⟩) (n + 1) N1) d ∧ M.val d = M.val b * S ∧ d.length = n + 1 ∧ 2147483648 ≤ d.getD n 0) := by
    refine ⟨?_, hd1, hd2, hd3⟩
    have h9 := (hw1.sub 0 (n + 1) (by omega)).sl (cap := N1) (by rw [List.length_take, List.length_drop]; omega)
    rw [List.drop_zero, ← hd, hd2] at h9
    exact h9
  have HK1 : Hid (Kept w0 w1 ∧ w0.heap.size ≤ b1 ∧ b1 < w1.heap.size) := ⟨hk1, hB1, hw1.row.lt⟩
  have hN1' : n + 1 + 1 ≤ N1 := by omega
  clear hk1 hn1 hl1 hv1 hB1 hN1 hw1 hd1 hd2 hd3 hd
  -- the number
  go_wp2_with fail
  have hc2 := shiftLeft_any aoa capa a s w1 (HA.out.kept HK1.out.1) (by have := HL.out; omega) hs
  rw [← HL.out.1, ← HSS.out] at hc2
  refine hc2.mono ?_
  rintro e w2 ⟨hk2, b2, N2, r, rfl, hn2, hl2, hv2⟩
  clear hc2
  obtain ⟨_, hB2, hN2, f2, hw2⟩ := hn2.win
  have hlt2 := shifted_number HSS.out hs bda HL.out.1.symm hw2.bd hl2 hv2 HD.out.2.2.1 hab HD.out.2.2.2
  obtain ⟨rl, hrl⟩ : ∃ rl, rl = la + 1 := ⟨_, rfl⟩
  obtain ⟨L, hL⟩ : ∃ L, L = la - n := ⟨_, rfl⟩
  rw [← hL] at hlt2
  rw [← hrl] at hl2 ⊢
  have HR : Hid (r.length = rl ∧ M.val r = M.val a * S ∧ M.val (r.drop L) < M.val d ∧ ∃ f, Win w2 b2 N2 0 f r) := ⟨hl2, hv2, hlt2, f2, hw2⟩
  have HK2 : Hid (Kept w0 w2 ∧ Kept w1 w2 ∧ w1.heap.size ≤ b2 ∧ b2 < w2.heap.size) := ⟨HK1.out.1.trans hk2, hk2, hB2, hw2.row.lt⟩
  have hN2' : rl ≤ N2 := by omega
  have HLL : Hid (L = la - n ∧ rl = la + 1 ∧ n + 1 ≤ la) := ⟨hL, hrl, hab⟩
  have hL1 : 1 ≤ L := by omega
  have hL2 : L ≤ 900 := by omega
  have hmk := make_diff rl (n + 1) L (by omega) (by omega)
  simp only [show ((n + 1 : Nat) : Int) = (n : Int) + 1 by omega] at hmk
  have hrl2 : rl ≤ 901 := by omega
  have hrn : n + 1 ≤ rl := by omega
  clear hk2 hn2 hl2 hv2 hB2 hN2 hw2 hrl hL hab hla hlt2
  go_wp2
  have hrow0 := row_zeros w2 L
  obtain ⟨b3, hb3⟩ : ∃ b3, b3 = w2.heap.size := ⟨_, rfl⟩
  rw [← hb3] at hrow0 ⊢
  obtain ⟨w3, hw3⟩ : ∃ w3, w3 = w2.alloc (.cells (madeCells #[.int .u32 0] L) 43) := ⟨_, rfl⟩
  rw [← hw3] at hrow0 ⊢
  have hk3 : Kept w2 w3 := by rw [hw3]; exact (Kept.refl w2).alloc _
  have HB3 : Hid (b1 < b2 ∧ b2 < b3 ∧ w0.heap.size ≤ b1) := by
    have h1 := HK1.out
    have h2 := HK2.out
    rw [hb3]
    exact ⟨by omega, by omega, by omega⟩
  have hH0 : ∃ g, Win w3 b2 N2 0 g r := by
    obtain ⟨f, hf⟩ := HR.out.2.2.2
    exact ⟨f, hf.kept hk3⟩
  have HS0 : Hid ((∃ g, Win w3 b2 N2 0 g r) ∧ w3.rowIs b3 43 L (fun j => .int .u32 (((List.replicate L 0).getD j 0 : Nat) : Int)) ∧ Sl w3 (.slice (some ⟨b1, 0, none⟩) (n + 1) N1) d ∧ Kept w0 w3) :=
    ⟨hH0, hrow0, (HD.out.1.kept HK2.out.2.1).kept hk3, HK2.out.1.trans hk3⟩
  clear hrow0 hb3 hw3 hk3 hH0 hmk
  go_loopw [10] (fun vi wr => ∃ (k : Nat) (o R : List Nat), k ≤ L ∧ vi = .int .i64 ((k : Int) - 1) ∧ Hid (R.length = rl ∧ o.length = L ∧ M.Bd o ∧ M.val (R.drop k) < M.val d ∧ M.val a * S = M.val (o.drop k) * 4294967296 ^ k * M.val d + M.val R) ∧
      Hid (∃ g, Win wr b2 N2 0 g R) ∧ Hid (wr.rowIs b3 43 L (fun j => .int .u32 ((o.getD j 0 : Nat) : Int))) ∧ Hid (Sl wr (.slice (some ⟨b1, 0, none⟩) (n + 1) N1) d) ∧ Hid (Kept w0 wr)) (fun vi _ => (intOf vi + 1).toNat)
  case atStart =>
    refine ⟨L, List.replicate L 0, r, Nat.le_refl _, rfl, ⟨HR.out.1, List.length_replicate, Bd_replicate L, HR.out.2.2.1, ?_⟩, HS0.out.1, HS0.out.2.1, HS0.out.2.2.1, HS0.out.2.2.2⟩
    rw [List.drop_of_length_le (by rw [List.length_replicate]; exact Nat.le_refl _), HR.out.2.1]
    simp [M.val]
  case round =>
    obtain ⟨k, o, R, hk, rfl, ho, hwin, hrow, hby, hkept⟩ := hrel
    by_cases h0 : k = 0
    · subst h0
      obtain ⟨g, hg⟩ := hwin.out
      obtain ⟨hR1, hR2, hR3, hR4, hR5⟩ := ho.out
      rw [List.drop_zero] at hR4
      rw [List.drop_zero, Nat.pow_zero, Nat.mul_one] at hR5
      have hS0 : 0 < S := by rw [HSS.out]; exact Nat.two_pow_pos s
      have hend := div_end (A := M.val a) (B := M.val b) HD.out.2.1 hS0 hR5 hR4
      have hcall := shiftRight_any b2 N2 N2 g R s wr hg (by omega) (by omega) hs
      rw [hR1, ← HSS.out] at hcall
      have HC : Hid (Calls Tryd.prog 69 #[.slice (some ⟨b2, 0, none⟩) rl N2, .int .i64 (s : Int)] wr fun e w' => wr.grownBy w' (some b2) ∧ e = .returned (.tuple #[]) ∧ ∃ f' q', Win w' b2 N2 0 f' q' ∧ q'.length = rl ∧ M.val q' = M.val R / S) := hcall
      have HE : Hid (M.val a = M.val o * M.val b + M.val R / S ∧ M.val R / S < M.val b ∧ o.length = L ∧ M.Bd o) := ⟨hend.1, hend.2, hR2, hR3⟩
      clear hg hR1 hR2 hR3 hR4 hR5 hS0 hend hcall hN1' hb2 hb1
      go_wp2_with fail
      refine HC.out.mono ?_
      rintro e w4 ⟨hgr4, rfl, f4, R', hw4, hl4, hv4⟩
      have hb3' := HB3.out
      have hnq : New w0.heap.size w4 (.slice (some ⟨b3, 0, none⟩) L L) o := New.of_row (hrow.out.of_block (hgr4.block b3 hrow.out.lt (fun e => by have := Option.some.inj e; omega))) HE.out.2.2.2 HE.out.2.2.1.symm (Nat.le_refl _) (by omega)
      have hnr : New w0.heap.size w4 (.slice (some ⟨b2, 0, none⟩) rl N2) R' := by have h9 := hw4.new (B := w0.heap.size) (by omega); rwa [hl4] at h9
      have H4 : Hid (Kept w0 w4 ∧ New w0.heap.size w4 (.slice (some ⟨b3, 0, none⟩) L L) o ∧ New w0.heap.size w4 (.slice (some ⟨b2, 0, none⟩) rl N2) R' ∧ R'.length = rl ∧ M.val R' = M.val R / S) :=
        ⟨Below.grown hkept.out hgr4 hkept.out.size (fun k hk => by cases hk; omega), hnq, hnr, hl4, hv4⟩
      clear hgr4 hw4 hl4 hv4 hnq hnr hb3' HC
      go_wp2_with fail
      refine (trim_new _ H4.out.2.1 (by rw [HE.out.2.2.1]; omega)).mono ?_
      rintro e w5 ⟨rfl, vq, q', rfl, hq1, hq2, hq3, hq4⟩
      have HQ : Hid (New w0.heap.size w5 vq q' ∧ M.Tr q' ∧ M.val q' = M.val o ∧ q'.length ≤ o.length) := ⟨hq1, hq2, hq3, hq4⟩
      clear hq1 hq2 hq3 hq4
      go_wp2_with fail
      refine (trim_new _ H4.out.2.2.1 (by rw [H4.out.2.2.2.1]; omega)).mono ?_
      rintro e w6 ⟨rfl, vr, r', rfl, hr1, hr2, hr3, hr4⟩
      have HRR : Hid (New w0.heap.size w6 vr r' ∧ M.Tr r' ∧ M.val r' = M.val R') := ⟨hr1, hr2, hr3⟩
      clear hr1 hr2 hr3 hr4
      go_wp2
      go_ret2
      have hE := HE.out
      refine ⟨H4.out.1, vq, q', vr, r', rfl, HQ.out.1, HRR.out.1, HQ.out.2.1, HRR.out.2.1, ?_, ?_, ?_⟩
      · have h1 := HQ.out.2.2.2
        have h2 := HLL.out
        have h3 := HL.out
        omega
      · rw [HQ.out.2.2.1, HRR.out.2.2, H4.out.2.2.2.2]; exact hE.1
      · rw [HRR.out.2.2, H4.out.2.2.2.2]; exact hE.2.1
    · obtain ⟨i, rfl⟩ : ∃ i, k = i + 1 := ⟨k - 1, by omega⟩
      have hi : i < L := by omega
      have e1 : ((i + 1 : Nat) : Int) - 1 = (i : Int) := by omega
      rw [e1]
      have hin : i + (n + 1) + 1 ≤ rl := by have := HLL.out; omega
      have hii : (i : Int) + ((n : Int) + 1) + 1 ≤ (N2 : Int) := by omega
      obtain ⟨g, hg⟩ := hwin.out
      have hWw := hg.sub i (n + 1 + 1) (by rw [ho.out.1]; omega)
      obtain ⟨W, hW⟩ : ∃ W, W = (R.drop i).take (n + 1 + 1) := ⟨_, rfl⟩
      rw [← hW] at hWw
      have hWl : W.length = n + 1 + 1 := by rw [hW, List.length_take, List.length_drop, ho.out.1]; omega
      have hDlt : M.val d < 4294967296 ^ (n + 1) := by have := M.val_lt hby.out.bd; rwa [HD.out.2.2.1] at this
      have hwin3 := div_window (i := i) (n := n + 1) hg.bd (by rw [ho.out.1]; omega) hDlt ho.out.2.2.2.1
      have hdl := HD.out.2.2.1
      have hby' := hby.out
      rw [← hdl] at hby'
      have hcall := takeLimb_any b2 N2 i (N2 - i) g W d b1 0 N1 wr hWw hby' (by have := HB3.out; omega) (by omega) (by omega) (by omega) (by omega) (by rw [hdl]; exact HD.out.2.2.2) (by rw [hW]; exact hwin3.2.2)
      rw [hWl, hdl] at hcall
      have HC : Hid (Calls Tryd.prog 68 #[.slice (some ⟨b2, i, none⟩) (n + 1 + 1) (N2 - i), .slice (some ⟨b1, 0, none⟩) (n + 1) N1] wr fun e w' => wr.grownBy w' (some b2) ∧ ∃ f' q', e = .returned (.int .u32 ((M.val W / M.val d : Nat) : Int)) ∧ Win w' b2 N2 i f' q' ∧ q'.length = n + 1 + 1 ∧ (∀ j, j < i ∨ i + (n + 1 + 1) ≤ j → f' j = g j) ∧ M.val q' = M.val W % M.val d) := hcall
      have HG : Hid (Win wr b2 N2 0 g R ∧ W = (R.drop i).take (n + 1 + 1)) := ⟨hg, hW⟩
      have HWQ : Hid (M.val W / M.val d < 4294967296) := by
        show _ < _
        rw [Nat.div_lt_iff_lt_mul (by omega), hW]; exact hwin3.2.2
      have HDL : Hid (M.val d < 4294967296 ^ (n + 1)) := hDlt
      clear hWw hWl hDlt hwin3 hdl hby' hcall hg hW e1 h0
      go_wp2_with fail
      rw [show i + (n + 1) + 1 - i = n + 1 + 1 by omega]
      refine HC.out.mono ?_
      rintro e w4 ⟨hgr4, f4, W', rfl, hw4, hl4, hf4, hv4⟩
      clear HC
      have H4 : Hid (wr.grownBy w4 (some b2) ∧ Win w4 b2 N2 i f4 W' ∧ W'.length = n + 1 + 1 ∧ (∀ j, j < i ∨ i + (n + 1 + 1) ≤ j → f4 j = g j) ∧ M.val W' = M.val W % M.val d) := ⟨hgr4, hw4, hl4, hf4, hv4⟩
      have hrow4 : w4.rowIs b3 43 L (fun j => .int .u32 ((o.getD j 0 : Nat) : Int)) := hrow.out.of_block (hgr4.block b3 hrow.out.lt (fun e => by have := HB3.out; have := Option.some.inj e; omega))
      have hfz : w4.frozen? ⟨b3, i, none⟩ = false := hrow4.frozen _
      have hcz : w4.cell? ⟨b3, i, none⟩ = some (.int .u32 ((o.getD i 0 : Nat) : Int)) := hrow4.cell hi
      have HROW4 : Hid (w4.rowIs b3 43 L (fun j => .int .u32 ((o.getD j 0 : Nat) : Int))) := hrow4
      obtain ⟨z, hz⟩ : ∃ z : Int, z = ((o.getD i 0 : Nat) : Int) := ⟨_, rfl⟩
      rw [← hz] at hcz
      obtain ⟨qd, hqd⟩ : ∃ qd, qd = M.val W / M.val d := ⟨_, rfl⟩
      have HQD : Hid (qd = M.val W / M.val d ∧ qd < 4294967296) := ⟨hqd, by rw [hqd]; exact HWQ.out⟩
      rw [← hqd]
      clear hgr4 hw4 hl4 hf4 hv4 hrow4 hz hqd
      go_wp2
      go_roundw
      case rel =>
        obtain ⟨hgr4, hw4, hl4, hf4, hv4⟩ := H4.out
        have hR := ho.out
        have hol : i < o.length := by rw [hR.2.1]; exact hi
        have hgrs : w4.grownBy (w4.setCell ⟨b3, i, none⟩ (.int .u32 (qd : Int))) (some b3) := grown_set (World.grownBy.refl _ _) i _
        have hjoin := HG.out.1.join hw4 (by rw [hl4]; exact hf4) (by rw [hl4, hR.1]; omega)
        rw [hl4] at hjoin
        have hround := div_round (n := n + 1) (qd := qd) (W' := W') HG.out.1.bd (by rw [hR.1]; omega) hl4 hol HDL.out hR.2.2.2.1 hR.2.2.2.2 (by rw [HQD.out.1, HG.out.2]) (by rw [hv4, HG.out.2])
        have hb3' := HB3.out
        have hne : ∀ k, some b2 = some k → w0.heap.size ≤ k := fun k hk => by cases hk; omega
        refine ⟨i, o.set i qd, _, by omega, by go_num, ⟨by rw [hround.1]; exact hR.1, by rw [List.length_set]; exact hR.2.1, Bd_set hR.2.2.1 _ _ HQD.out.2, hround.2.1, hround.2.2⟩, ⟨_, hjoin.grown hgrs (by omega)⟩, row_set HROW4.out i hol qd _ rfl, sl_grown (sl_grown hby.out hgr4 (by omega)) hgrs (by omega), ?_⟩
        exact (Below.grown hkept.out hgr4 hkept.out.size hne).setCell (by show w0.heap.size ≤ b3; omega) _
      case measure => simp [intOf]

end Go.Proofs.YthijnnififodjaaDoor

/- The walk of RatLcm. -/
import Derived.Test.YtfpcoolkkmnngaaGap
import Derived.Test.YtfpcoolkkmnngaaFawk
namespace Go.Proofs.Ytfpcoolkkmnngaa
open Go.RowKit
namespace F

theorem Refused.one {N : Nat} {m n : Nat → Bool} {a d : Nat → List Nat} {c c' : Int} (h : Refused N m n a d c) (h' : Refused N m n a d c') : c = c' := by
  rcases h with ⟨rfl, i, hi, h⟩ | ⟨hr, ⟨rfl, i, hi, h⟩ | ⟨rfl, h⟩⟩ <;> rcases h' with ⟨rfl, i', hi', h'⟩ | ⟨hr', ⟨rfl, i', hi', h'⟩ | ⟨rfl, h'⟩⟩
  · rfl
  · exact absurd (hr' i hi) h
  · exact absurd (hr' i hi) h
  · exact absurd (hr i' hi') h'
  · rfl
  · exact absurd (h' i hi) h
  · exact absurd (hr i' hi') h'
  · exact absurd (h i' hi') h'
  · rfl

theorem Refused.rats {N : Nat} {m n : Nat → Bool} {a d : Nat → List Nat} (h : Refused N m n a d 0) : ∀ i, i < N → RatR (m i) (n i) (a i) (d i) := fun i hi => by
  rcases h with ⟨h, _⟩ | ⟨h1, ⟨h, _⟩ | ⟨_, h⟩⟩
  · exact absurd h (by decide)
  · exact absurd h (by decide)
  · exact ⟨(h1 i hi).1, (h1 i hi).2, (h i hi).1, (h i hi).2⟩

/-- What both Lcm answer: a refusal's number, or 13, with nothing, or the multiple. -/
def LcmE (B : Nat) (w : World) (e : Ending) (N : Nat) (m n : Nat → Bool) (a d : Nat → List Nat) (c : Int) : Prop :=
  (c ≠ 0 ∧ e = .returned (.tuple #[.agg #[.bool false, .slice none 0 0], .int .i64 c])) ∨ (c = 0 ∧ (∀ i, i < N → RatR (m i) (n i) (a i) (d i)) ∧ ∃ ao k q l, e = .returned (.tuple #[.agg #[.bool false, .slice ao k q], .int .i64 0]) ∧ New B w (.slice ao k q) l ∧ M.Right false l ∧ M.val l = lcmOf (fun i => M.val (d i)) N)

/-- The number, by the list alone. -/
def lcmNo (N : Nat) (m n : Nat → Bool) (a d : Nat → List Nat) (c : Int) : Prop := ∃ r, Refused N m n a d r ∧ (r ≠ 0 ∧ c = r ∨ r = 0 ∧ (M.W72 ≤ lcmOf (fun i => M.val (d i)) N ∧ c = 13 ∨ lcmOf (fun i => M.val (d i)) N < M.W72 ∧ c = 0))

theorem lcmNo.one {N : Nat} {m n : Nat → Bool} {a d : Nat → List Nat} {c c' : Int} (h : lcmNo N m n a d c) (h' : lcmNo N m n a d c') : c = c' := by
  obtain ⟨r, h1, h2⟩ := h
  obtain ⟨r', h1', h2'⟩ := h'
  have e := h1.one h1'
  subst e
  omega

theorem lcm_e {B N : Nat} {w : World} {e : Ending} {m n : Nat → Bool} {a d : Nat → List Nat} {c : Int} (hc : Refused N m n a d c) (h : (c ≠ 0 ∧ e = .returned (.tuple #[.agg #[.bool false, .slice none 0 0], .int .i64 c])) ∨ (c = 0 ∧ LcmIs B w e (lcmOf (fun i => M.val (d i)) N))) : ∃ c', lcmNo N m n a d c' ∧ LcmE B w e N m n a d c' := by
  rcases h with ⟨h1, h2⟩ | ⟨rfl, h⟩
  · exact ⟨c, ⟨c, hc, .inl ⟨h1, rfl⟩⟩, .inl ⟨h1, h2⟩⟩
  · rcases h with ⟨ao, k, q, l, rfl, h1, h2, h3⟩ | ⟨h1, h2⟩
    · refine ⟨0, ⟨0, hc, .inr ⟨rfl, .inr ⟨?_, rfl⟩⟩⟩, .inr ⟨rfl, hc.rats, ao, k, q, l, rfl, h1, h2, h3⟩⟩
      rw [← h3]
      exact M.lt_W72 h2.bd h2.len
    · exact ⟨13, ⟨0, hc, .inr ⟨rfl, .inl ⟨h2, rfl⟩⟩⟩, .inl ⟨by decide, h1⟩⟩

theorem vlen {l : List Nat} (h : 0 < M.val l) : 0 < l.length := by
  cases l
  · simp [M.val] at h
  · simp

theorem exa_val {m : Bool} {s : Bool} {l a b : List Nat} {n : Bool} {L v : Nat} (h : M.int s l * M.int n b = M.int m a) (ha : M.val a = L) (hb : M.val b = v) : M.val l * v = L := by
  have e := congrArg Int.natAbs h
  rw [Int.natAbs_mul, M.natAbs_int, M.natAbs_int, M.natAbs_int, ha, hb] at e
  exact e

theorem one_of {s s' : Bool} {l l' : List Nat} (h : M.Right s l) (hs : s = false) (hv : M.val l = 1) (h' : M.Right s' l') (hv' : M.int s' l' = 1) : s = s' ∧ l = l' := by
  apply M.int_inj h h'
  rw [hs, int_val, hv, hv']; rfl

theorem gcd_round {q : Nat → Nat} {k x y L v : Nat} (h1 : x = gcdOf (fun i => L / q i) k) (h2 : y * v = L) (hv : v = q k) (h0 : 0 < q k) : Nat.gcd x y = gcdOf (fun i => L / q i) (k + 1) := by
  subst hv h1
  have : y = L / q k := by rw [← h2]; exact (Nat.mul_div_cancel _ h0).symm
  rw [this]; rfl

set_option maxRecDepth 100000 in
set_option maxHeartbeats 8000000 in
theorem rlcm_any (ao : Option Addr) (b off N cap : Nat) (w : World) (m n : Nat → Bool) (aa ad : Nat → Option Addr) (ka ca kd cd : Nat → Nat) (a d : Nat → List Nat) (hao : 0 < N → ao = some ⟨b, off, none⟩) (hN : N ≤ 9223372036854775807) (H : RatAll w b off N m n aa ad ka ca kd cd a d) :
    Calls Try.prog 4 #[.slice ao N cap] w fun e w' => e = .returned (.bool true) ∧ Kept w w' := by
  have HH : Hid (RatAll w b off N m n aa ad ka ca kd cd a d ∧ (0 < N → ao = some ⟨b, off, none⟩)) := ⟨H, hao⟩
  clear H hao
  go_enter Try.func4, Try.ntmps4
  go_wp2_with fail
  refine (awake_yes _).mono ?_
  rintro e w1 ⟨rfl, hk⟩
  have HK1 := hid' hk
  clear hk
  go_wp2_with fail
  go_loopw [17] (fun vi wr => ∃ k : Nat, k ≤ N ∧ k ≤ 13 ∧ vi = .int .i64 (k : Int) ∧ Hid (Kept w wr)) (fun vi _ => N - (intOf vi).toNat)
  case atStart => exact ⟨0, Nat.zero_le _, by omega, rfl, HK1.out⟩
  case round =>
    clear HK1
    obtain ⟨k, hk, h13, rfl, HK⟩ := hrel
    by_cases hlt : k < N
    · obtain ⟨⟨h0, h1, h2, h3⟩, h4, h5, h6, h7⟩ := HH.out.1 k hlt
      obtain rfl := HH.out.2 (by omega)
      have h0 := cell_kept HK.out h0
      have h1 := cell_kept HK.out h1
      have h2 := cell_kept HK.out h2
      have h3 := cell_kept HK.out h3
      have e1 := h4.len
      have e2 := h5.len
      have b1 : ka k ≤ 9223372036854775807 := by omega
      have b2 : kd k ≤ 9223372036854775807 := by omega
      have b3 := HK.out
      clear h4 h5 e1 e2 h6 h7 b3
      by_cases h12 : 12 < k
      · have g12 : decide ((12 : Int) < (k : Int)) = true := by simp; omega
        have g12' : (12 : Int) < (k : Int) := by omega
        go_wp2_with fail
        go_quiet (fail)
        go_wp2
        go_ret
        exact ⟨rfl, HK.out.drewN _⟩
      · have h12' : k ≤ 12 := by omega
        have g12 : decide ((12 : Int) < (k : Int)) = false := by simp; omega
        have g12' : ¬ (12 : Int) < (k : Int) := by omega
        clear h12
        by_cases hbig : ka k + kd k ≤ 9223372036854775807
        · by_cases hs : 80 < ka k + kd k
          · have gs : decide ((80 : Int) < (ka k : Int) + (kd k : Int)) = true := by simp; omega
            go_wp2_with fail
            go_quiet (fail)
            go_wp2
            go_ret
            exact ⟨rfl, HK.out.drewN _⟩
          · have gs : decide ((80 : Int) < (ka k : Int) + (kd k : Int)) = false := by simp; omega
            go_wp2_with fail
            go_quiet (fail)
            go_wp2_with fail
            go_roundw
            case rel => exact ⟨k + 1, by omega, by omega, by go_num, HK.out.drewN _⟩
            case measure => simp [intOf]; omega
        · go_wp2_with fail
          go_quiet (fail)
          generalize wrap64 ((ka k : Int) + (kd k : Int)) = q
          by_cases hs : 80 < q
          · go_wp2
            go_ret
            exact ⟨rfl, HK.out.drewN _⟩
          · go_wp2_with fail
            go_roundw
            case rel => exact ⟨k + 1, by omega, by omega, by go_num, HK.out.drewN _⟩
            case measure => simp [intOf]; omega
    · have HN13 : Hid (N ≤ 1000000) := by show _ ≤ _; omega
      clear h13 hk
      go_wp2_with fail
      refine (Lcm_ok ao b off N cap _ m n aa ad ka ca kd cd a d HH.out.2 HN13.out (HH.out.1.kept HK.out)).mono ?_
      rintro e w2 ⟨hk2, c0, hc0, hcs⟩
      obtain ⟨c, hno, hE⟩ := lcm_e hc0 hcs
      have HNO := hid' hno
      have HK2 := hid' (HK.out.trans hk2)
      have HSZ := hid' HK.out.size
      clear hno hc0 hcs hk2 HK c0
      rcases hE with ⟨hc, rfl⟩ | ⟨rfl, hr, ao2, k2, q2, l2, rfl, n2, r2, v2⟩
      · have HC := hid' hc
        have hcb : ((c : Int) == 0) = false := by simpa using hc
        clear hc
        have hI := hid' (ZBox.alloc w2)
        go_wp2_with fail
        refine (RLcm_any ao b off N cap _ m n aa ad ka ca kd cd a d HH.out.2 HN13.out (HH.out.1.kept (HK2.out.alloc _))).mono ?_
        rintro e w3 ⟨hk3, c0, hc0, hcs⟩
        obtain ⟨c', hno, hE⟩ := lcm_e hc0 hcs
        obtain rfl := hno.one HNO.out
        have hZ := hI.out.kept hk3
        have HK3 := hid' ((HK2.out.alloc _).trans hk3)
        clear hk3 hno hc0 hcs hI
        rcases hE with ⟨_, rfl⟩ | ⟨h, _⟩
        · have f0 := fun x => cell_kept ((Kept.refl w3).alloc x) hZ.c0
          have f1 := fun x => cell_kept ((Kept.refl w3).alloc x) hZ.c1
          go_wp2_with fail
          refine (same_yes false false _ _ [] [] _ (Sl.nil _ _ _) (Sl.nil _ _ _) (by simp) rfl rfl).mono ?_
          rintro e w4 ⟨rfl, hk4⟩
          have HK4 := hid' ((HK3.out.alloc _).trans hk4)
          clear hk4 f0 f1
          go_wp2
          go_ret
          exact ⟨rfl, HK4.out⟩
        · exact absurd h HC.out
      · have HR := hid' hr
        have HV := hid' (And.intro (n2.mono HSZ.out) (And.intro r2 v2))
        have HD : Hid (∀ i, i < N → 0 < M.val (d i)) := fun i hi => (HR.out i hi).vpos
        clear n2 r2 v2 hr HSZ
        have hI := hid' (IRow.alloc w2 (.bool false) (.slice ao2 k2 q2))
        go_wp2_with fail
        refine (RLcm_any ao b off N cap _ m n aa ad ka ca kd cd a d HH.out.2 HN13.out (HH.out.1.kept (HK2.out.alloc _))).mono ?_
        rintro e w3 ⟨hk3, c0, hc0, hcs⟩
        obtain ⟨c', hno, hE⟩ := lcm_e hc0 hcs
        have h00 := hno.one HNO.out
        subst h00
        have HI := hid' (hI.out.kept hk3)
        have HK3 := hid' ((HK2.out.alloc _).trans hk3)
        have HV := hid' (And.intro (HV.out.1.kept (((Kept.refl w2).alloc _).trans hk3)) HV.out.2)
        clear hk3 hno hc0 hcs hI HNO
        rcases hE with ⟨h, _⟩ | ⟨_, _, ao3, k3, q3, l3, rfl, n3, r3, v3⟩
        · exact absurd rfl h
        · have hl3 := (M.int_inj HV.out.2.1 r3 (by rw [int_val, int_val, v3, HV.out.2.2])).2
          subst hl3
          have HS3 := hid' n3.sl
          clear n3 r3 v3
          have f0 := fun x => cell_kept ((Kept.refl w3).alloc x) HI.out.c0
          have f1 := fun x => cell_kept ((Kept.refl w3).alloc x) HI.out.c1
          go_wp2_with fail
          refine (same_yes false false _ _ l2 l2 _ ((HV.out.1.kept ((Kept.refl w3).alloc _)).sl) (HS3.out.kept ((Kept.refl w3).alloc _)) (by have := HV.out.2.1.len; omega) rfl rfl).mono ?_
          rintro e w4 ⟨rfl, hk4⟩
          have hk34 := ((Kept.refl w3).alloc _).trans hk4
          have HK4 := hid' (HK3.out.trans hk34)
          have HI := hid' (HI.out.kept hk34)
          have HV := hid' (And.intro (HV.out.1.kept hk34) HV.out.2)
          have HP4 : Hid (w.heap.size ≤ w2.heap.size) := HK2.out.size
          clear hk4 hk34 f0 f1 HS3 HK3 HK2
          obtain ⟨p4, hp4⟩ : ∃ p, p = w2.heap.size := ⟨_, rfl⟩
          rw [← hp4] at HI HP4 ⊢
          clear hp4
          go_upto_region 17 with fail
          have hZ := IRow.alloc w4 (.bool false) (.slice none 0 0)
          have hK := (Kept.refl w4).alloc (.cells #[.bool false, .slice none 0 0] 24)
          generalize w4.alloc (.cells #[.bool false, .slice none 0 0] 24) = W at hZ hK ⊢
          have HP8 : Hid (w.heap.size ≤ w4.heap.size ∧ p4 < w4.heap.size) := ⟨HK4.out.size, HI.out.lt⟩
          obtain ⟨p8, hp8⟩ : ∃ p, p = w4.heap.size := ⟨_, rfl⟩
          rw [← hp8] at hZ HP8 ⊢
          have h48 : ¬ p4 = p8 := by have := HP8.out.2; omega
          have h84 : ¬ p8 = p4 := by have := HP8.out.2; omega
          clear hp8
          go_loopw [65] (fun vi wr => ∃ (k : Nat) (s : Bool) (ao5 : Option Addr) (k5 q5 : Nat), k ≤ N ∧ vi = .int .i64 (k : Int) ∧ Hid (Kept w wr ∧ IRow wr p4 (.bool false) (.slice ao2 k2 q2) ∧ IRow wr p8 (.bool s) (.slice ao5 k5 q5) ∧ New w.heap.size wr (.slice ao2 k2 q2) l2 ∧ ∃ l, New w.heap.size wr (.slice ao5 k5 q5) l ∧ M.Right s l ∧ s = false ∧ M.val l = gcdOf (fun i => lcmOf (fun i => M.val (d i)) N / M.val (d i)) k)) (fun vi _ => N - (intOf vi).toNat)
          case atStart => exact ⟨0, false, none, 0, 0, Nat.zero_le _, rfl, HK4.out.trans hK, HI.out.kept hK, hZ, HV.out.1.kept hK, [], ⟨M.Bd_nil, .inl ⟨rfl, rfl⟩⟩, ⟨M.Bd_nil, by simp [M.Tr], by simp, fun _ => rfl⟩, rfl, rfl⟩
          case round =>
            clear hZ hK HK4 HI
            obtain ⟨k, s, ao5, k5, q5, hk, rfl, HJ⟩ := hrel
            have g0 := HJ.out.2.1.c0
            have g1 := HJ.out.2.1.c1
            have j0 := HJ.out.2.2.1.c0
            have j1 := HJ.out.2.2.1.c1
            by_cases hlt : k < N
            · obtain ⟨⟨h0, h1, h2, h3⟩, h4⟩ := HH.out.1 k hlt
              obtain rfl := HH.out.2 (by omega)
              have h0 := cell_kept HJ.out.1 h0
              have h1 := cell_kept HJ.out.1 h1
              have h2 := cell_kept HJ.out.1 h2
              have h3 := cell_kept HJ.out.1 h3
              have H4 := hid' h4
              obtain ⟨-, -, -, hn2, l, hl⟩ := HJ.out
              have HL := hid' hl
              have HN2 := hid' hn2
              have g0' := fun x => cell_kept ((Kept.refl wr).alloc x) g0
              have g1' := fun x => cell_kept ((Kept.refl wr).alloc x) g1
              clear h4 hl hn2
              go_wp2_with fail
              refine (exact_any false (n k) (.slice ao2 k2 q2) (.slice (ad k) (kd k) (cd k)) l2 (d k) _ ((HN2.out.kept ((Kept.refl wr).alloc _)).sl) (H4.out.2.1.kept (HJ.out.1.alloc _)) (R.of_right HV.out.2.1) (HR.out k hlt).rd (vlen (HD.out k hlt))).mono ?_
              rintro e w6 ⟨hk6, hx⟩
              rcases hx with ⟨-, s6, a6, k6, q6, l6, rfl, n6, r6, v6⟩ | ⟨hn, -⟩
              · have HK6 := hid' (((Kept.refl wr).alloc _).trans hk6)
                have HX := hid' (And.intro n6.sl (And.intro r6 v6))
                clear hk6 n6 r6 v6 h0 h1 h2 h3 g0 g1 g0' g1' j0 j1
                have f0 := fun x => cell_kept ((Kept.refl w6).alloc x) (cell_kept HK6.out HJ.out.2.2.1.c0)
                have f1 := fun x => cell_kept ((Kept.refl w6).alloc x) (cell_kept HK6.out HJ.out.2.2.1.c1)
                go_wp2_with fail
                refine (gcd_any s s6 (.slice ao5 k5 q5) (.slice a6 k6 q6) l l6 _ ((HL.out.1.kept (HK6.out.alloc _)).sl) (HX.out.1.kept ((Kept.refl w6).alloc _)) (R.of_right HL.out.2.1) (R.of_right HX.out.2.1)).mono ?_
                rintro e w7 ⟨hk7, a7, k7, q7, l7, rfl, n7, r7, v7⟩
                have HK7 := hid' ((HK6.out.alloc _).trans hk7)
                have HB := hid' (And.intro (HJ.out.2.1.kept HK7.out) (And.intro (HJ.out.2.2.1.kept HK7.out) (HN2.out.kept HK7.out)))
                have HY : Hid (New w.heap.size w7 (.slice a7 k7 q7) l7 ∧ M.Right false l7 ∧ M.val l7 = gcdOf (fun i => lcmOf (fun i => M.val (d i)) N / M.val (d i)) (k + 1)) := ⟨n7.mono (by have h1 := HJ.out.1.size; have h2 := HK6.out.size; simp; omega), r7, by rw [v7]; exact gcd_round (q := fun i => M.val (d i)) HL.out.2.2.2 (exa_val HX.out.2.2 HV.out.2.2 rfl) rfl (HD.out k hlt)⟩
                clear hk7 n7 r7 v7 f0 f1
                have f0 := HB.out.2.1.c0
                have f1 := HB.out.2.1.c1
                have f2 := HB.out.2.1.fz 0
                have f3 := HB.out.2.1.fz 1
                go_wp2_with fail
                go_roundw
                case rel => exact ⟨k + 1, false, a7, k7, q7, by omega, by go_num, ((HJ.out.1.trans HK7.out).setCell HP8.out.1 _).setCell HP8.out.1 _, HB.out.1.far h48 _ _, HB.out.2.1.set2 _ _, New.ibox2 HB.out.2.2 HB.out.2.1 _ _, l7, New.ibox2 HY.out.1 HB.out.2.1 _ _, HY.out.2.1, rfl, HY.out.2.2⟩
                case measure => simp [intOf]; omega
              · exact absurd (by rw [HV.out.2.2]; exact dvd_lcmOf (d := fun i => M.val (d i)) hlt) hn
            · have hkN : k = N := by omega
              subst hkN
              obtain ⟨-, -, -, -, l, hl⟩ := HJ.out
              have HL := hid' hl
              clear hl g0 g1
              by_cases hk0 : k = 0
              · subst hk0
                go_wp2_with fail
                go_quiet (fail)
                go_wp2
                go_ret
                exact ⟨rfl, HJ.out.1.drewN _⟩
              · have hkb : ((k : Int) == 0) = false := by simpa using hk0
                have hkd : decide ((k : Int) = 0) = false := by simpa using hk0
                have H1 : Hid (M.val l = 1) := by
                  show _ = _
                  rw [HL.out.2.2.2]
                  exact quotients (d := fun i => M.val (d i)) (by omega) HD.out (fun i hi => Nat.div_mul_cancel (dvd_lcmOf (d := fun i => M.val (d i)) hi))
                have HVV : Hid (∀ V, Kept wr V → (V.cell? ⟨p8, 0, none⟩ = some (.bool s) ∧ V.cell? ⟨p8, 1, none⟩ = some (.slice ao5 k5 q5)) ∧ Sl V (.slice ao5 k5 q5) l) := fun V hV => ⟨⟨cell_kept hV j0, cell_kept hV j1⟩, (HL.out.1.kept hV).sl⟩
                have HJ1 := hid' HJ.out.1
                clear hk0 HJ
                go_wp2_with fail
                go_region_held3 (fun w' => w'.cell? ⟨p8, 0, none⟩ = some (.bool s) ∧ w'.cell? ⟨p8, 1, none⟩ = some (.slice ao5 k5 q5)) (go_keep) (first
                  | (go_at_call 17; refine (of_any 1 _ (by omega) (by omega)).mono ?_; rintro e w6 ⟨hk6, s6, a6, k6, q6, l6, rfl, n6, r6, v6⟩; have K6 := (Kept.refl wr).drew.trans hk6; have H6 := hid' (And.intro n6.sl (And.intro r6 v6)); clear n6 r6 v6; have b0 := (HVV.out _ K6).1.1; have b1 := (HVV.out _ K6).1.2)
                  | (go_at_call 14; refine (same_yes s s6 _ _ l l6 _ (HVV.out _ K6).2 H6.out.1 (by have := HL.out.2.1.len; omega) (one_of HL.out.2.1 HL.out.2.2.1 H1.out H6.out.2.1 H6.out.2.2).1 (one_of HL.out.2.1 HL.out.2.2.1 H1.out H6.out.2.1 H6.out.2.2).2).mono ?_; rintro e w7 ⟨rfl, hk7⟩; have K7 := K6.trans hk7; have d0 := (HVV.out _ K7).1.1; have d1 := (HVV.out _ K7).1.2))
                have HK7 := hid' (HJ1.out.trans K7)
                clear j0 j1 b0 b1 d0 d1 hk6 hk7 K6 K7 H6 HVV
                go_wp2
                go_ret
                exact ⟨rfl, HK7.out⟩

end F
end Go.Proofs.Ytfpcoolkkmnngaa

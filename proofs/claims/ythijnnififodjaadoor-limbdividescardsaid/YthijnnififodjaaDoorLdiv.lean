/- LimbDivides: the walk of the statement itself, out of its callees' contracts. -/
import Derived.Test.YthijnnififodjaaDoorKexact
import Derived.Test.YthijnnififodjaaDoorIcmp
import Derived.Test.YthijnnififodjaaDoorMul
namespace Go.Proofs.YthijnnififodjaaDoor
open Go.RowKit

theorem quo_int {m n : Bool} {a b q r : List Nat} (h : M.val a = M.val q * M.val b + M.val r) : M.int (m != n) q * M.int n b + M.int m r = M.int m a := by
  unfold M.int
  cases m <;> cases n <;> simp [h, Int.mul_neg, Int.neg_mul, Int.neg_add]

theorem fits_mul {a b : List Nat} {m n : Bool} (ha : M.Bd a) (hb : M.Bd b) (h : a.length + b.length ≤ 60) : (M.int m a * M.int n b).natAbs < M.W72 := by
  rw [Int.natAbs_mul, M.natAbs_int, M.natAbs_int]
  have h1 := Nat.mul_le_mul (Nat.le_of_lt (M.val_lt ha)) (Nat.le_of_lt (M.val_lt hb))
  rw [← Nat.pow_add] at h1
  have h2 : 4294967296 ^ (a.length + b.length) ≤ 4294967296 ^ 60 := Nat.pow_le_pow_right (by decide) h
  have h3 : 4294967296 ^ 60 < M.W72 := by unfold M.W72; decide
  omega

theorem gcd_parts {A B D Y Z : Int} {g : Nat} (hg : g = Nat.gcd A.natAbs B.natAbs) (hg0 : 0 < g) (hD : D = g) (hY : Y * D = A) (hZ : Z * D = B) : Nat.gcd Y.natAbs Z.natAbs = 1 := by
  have h1 : A.natAbs = Y.natAbs * g := by rw [← hY, Int.natAbs_mul, hD]; simp
  have h2 : B.natAbs = Z.natAbs * g := by rw [← hZ, Int.natAbs_mul, hD]; simp
  rw [h1, h2, Nat.gcd_mul_right] at hg
  have h3 : Nat.gcd Y.natAbs Z.natAbs * g = 1 * g := by omega
  exact Nat.eq_of_mul_eq_mul_right hg0 h3

theorem sign_of_int {s m : Bool} {l : List Nat} (hl : 0 < M.val l) (h : M.int s l = M.int m l) : s = m := by
  unfold M.int at h
  cases s <;> cases m <;> simp at h ⊢ <;> omega

set_option maxRecDepth 100000 in
set_option maxHeartbeats 4000000 in
theorem ldiv_a (ma mb : Bool) (aa ab : Option Addr) (la lb ca cb : Nat) (a b : List Nat) (w : World) (ha : Sl w (.slice aa la ca) a) (hb : Sl w (.slice ab lb cb) b)
    (_hla : a.length ≤ 9223372036854775807) (_hlb : b.length ≤ 9223372036854775807) (hra : ¬ R ma a) :
    Calls Tryd.prog 4 #[.agg #[.bool ma, .slice aa la ca], .agg #[.bool mb, .slice ab lb cb]] w fun e w' => e = .returned (.bool true) ∧ Kept w w' := by
  have HS : Hid (Sl w (.slice aa la ca) a ∧ Sl w (.slice ab lb cb) b) := ⟨ha, hb⟩
  have ela := ha.len
  have elb := hb.len
  have HRa : Hid (¬ R ma a) := hra
  clear hra ela elb
  clear ha hb
  go_enter Tryd.func4, Tryd.ntmps4
  go_wp2_with fail
  refine (awake_yes _).mono ?_
  rintro e w1 ⟨rfl, hk⟩
  obtain ⟨hA0, hA1, hB0, hB1⟩ := box_kept2 hk
  have HK : Hid (Kept w w1) := (((Kept.refl w).alloc _).alloc _).trans hk
  clear hk
  go_wp2_with fail
  refine (right_no ma _ a _ (HS.out.1.kept HK.out) (by omega) HRa.out).mono ?_
  rintro e w2 ⟨rfl, hk⟩
  have hA0 := cell_kept hk hA0
  have hA1 := cell_kept hk hA1
  have hB0 := cell_kept hk hB0
  have hB1 := cell_kept hk hB1
  have HK : Hid (Kept w w2) := HK.out.trans hk
  clear hk
  go_wp2
  go_ret
  exact ⟨rfl, HK.out⟩

set_option maxRecDepth 100000 in
set_option maxHeartbeats 4000000 in
theorem ldiv_b (ma mb : Bool) (aa ab : Option Addr) (la lb ca cb : Nat) (a b : List Nat) (w : World) (ha : Sl w (.slice aa la ca) a) (hb : Sl w (.slice ab lb cb) b)
    (_hla : a.length ≤ 9223372036854775807) (_hlb : b.length ≤ 9223372036854775807) (hra : R ma a) (hrb : ¬ R mb b) :
    Calls Tryd.prog 4 #[.agg #[.bool ma, .slice aa la ca], .agg #[.bool mb, .slice ab lb cb]] w fun e w' => e = .returned (.bool true) ∧ Kept w w' := by
  have HS : Hid (Sl w (.slice aa la ca) a ∧ Sl w (.slice ab lb cb) b) := ⟨ha, hb⟩
  have ela := ha.len
  have elb := hb.len
  have HRa : Hid (R ma a) := hra
  have HRb : Hid (¬ R mb b) := hrb
  clear hra hrb ela elb
  clear ha hb
  go_enter Tryd.func4, Tryd.ntmps4
  go_wp2_with fail
  refine (awake_yes _).mono ?_
  rintro e w1 ⟨rfl, hk⟩
  obtain ⟨hA0, hA1, hB0, hB1⟩ := box_kept2 hk
  have HK : Hid (Kept w w1) := (((Kept.refl w).alloc _).alloc _).trans hk
  clear hk
  go_wp2_with fail
  refine (right_yes ma _ a _ (HS.out.1.kept HK.out) HRa.out).mono ?_
  rintro e w2 ⟨rfl, hk⟩
  have hA0 := cell_kept hk hA0
  have hA1 := cell_kept hk hA1
  have hB0 := cell_kept hk hB0
  have hB1 := cell_kept hk hB1
  have HK : Hid (Kept w w2) := HK.out.trans hk
  clear hk
  go_wp2_with fail
  refine (right_no mb _ b _ (HS.out.2.kept HK.out) (by omega) HRb.out).mono ?_
  rintro e w3 ⟨rfl, hk⟩
  have hA0 := cell_kept hk hA0
  have hA1 := cell_kept hk hA1
  have hB0 := cell_kept hk hB0
  have hB1 := cell_kept hk hB1
  have HK : Hid (Kept w w3) := HK.out.trans hk
  clear hk
  go_wp2
  go_ret
  exact ⟨rfl, HK.out⟩

set_option maxRecDepth 100000 in
set_option maxHeartbeats 4000000 in
theorem ldiv_zero (ma mb : Bool) (aa ab : Option Addr) (la lb ca cb : Nat) (a b : List Nat) (w : World) (ha : Sl w (.slice aa la ca) a) (hb : Sl w (.slice ab lb cb) b)
    (_hla : a.length ≤ 9223372036854775807) (_hlb : b.length ≤ 9223372036854775807) (hra : R ma a) (hrb : R mb b) (hb0 : b.length = 0) :
    Calls Tryd.prog 4 #[.agg #[.bool ma, .slice aa la ca], .agg #[.bool mb, .slice ab lb cb]] w fun e w' => e = .returned (.bool true) ∧ Kept w w' := by
  have HS : Hid (Sl w (.slice aa la ca) a ∧ Sl w (.slice ab lb cb) b) := ⟨ha, hb⟩
  have ela := ha.len
  have elb := hb.len
  have HRa : Hid (R ma a) := hra
  have HRb : Hid (R mb b) := hrb
  have hl2 : lb = 0 := by omega
  subst hl2
  clear hra hrb ela elb hb0
  clear ha hb
  go_enter Tryd.func4, Tryd.ntmps4
  go_wp2_with fail
  refine (awake_yes _).mono ?_
  rintro e w1 ⟨rfl, hk⟩
  obtain ⟨hA0, hA1, hB0, hB1⟩ := box_kept2 hk
  have HK : Hid (Kept w w1) := (((Kept.refl w).alloc _).alloc _).trans hk
  clear hk
  go_wp2_with fail
  refine (right_yes ma _ a _ (HS.out.1.kept HK.out) HRa.out).mono ?_
  rintro e w2 ⟨rfl, hk⟩
  have hA0 := cell_kept hk hA0
  have hA1 := cell_kept hk hA1
  have hB0 := cell_kept hk hB0
  have hB1 := cell_kept hk hB1
  have HK : Hid (Kept w w2) := HK.out.trans hk
  clear hk
  go_wp2_with fail
  refine (right_yes mb _ b _ (HS.out.2.kept HK.out) HRb.out).mono ?_
  rintro e w3 ⟨rfl, hk⟩
  have hA0 := cell_kept hk hA0
  have hA1 := cell_kept hk hA1
  have hB0 := cell_kept hk hB0
  have hB1 := cell_kept hk hB1
  have HK : Hid (Kept w w3) := HK.out.trans hk
  clear hk
  go_wp2
  go_ret
  exact ⟨rfl, HK.out⟩

set_option maxRecDepth 100000 in
set_option maxHeartbeats 4000000 in
theorem ldiv_long (ma mb : Bool) (aa ab : Option Addr) (la lb ca cb : Nat) (a b : List Nat) (w : World) (ha : Sl w (.slice aa la ca) a) (hb : Sl w (.slice ab lb cb) b)
    (_hla : a.length ≤ 9223372036854775807) (_hlb : b.length ≤ 9223372036854775807) (hra : R ma a) (hrb : R mb b) (hb0 : 0 < b.length) (hlong : 60 < a.length + b.length) :
    Calls Tryd.prog 4 #[.agg #[.bool ma, .slice aa la ca], .agg #[.bool mb, .slice ab lb cb]] w fun e w' => e = .returned (.bool true) ∧ Kept w w' := by
  have HS : Hid (Sl w (.slice aa la ca) a ∧ Sl w (.slice ab lb cb) b) := ⟨ha, hb⟩
  have ela := ha.len
  have elb := hb.len
  have HRa : Hid (R ma a) := hra
  have HRb : Hid (R mb b) := hrb
  have hl1 : la ≤ 72 := by rw [ela]; exact hra.1
  have hl2 : lb ≤ 72 := by rw [elb]; exact hrb.1
  have hl3 : 0 < lb := by omega
  have hl4 : 60 < la + lb := by omega
  have hl5 : ((lb : Int) == 0) = false := by simp; omega
  clear hra hrb ela elb hb0 hlong
  clear ha hb
  go_enter Tryd.func4, Tryd.ntmps4
  go_wp2_with fail
  refine (awake_yes _).mono ?_
  rintro e w1 ⟨rfl, hk⟩
  obtain ⟨hA0, hA1, hB0, hB1⟩ := box_kept2 hk
  have HK : Hid (Kept w w1) := (((Kept.refl w).alloc _).alloc _).trans hk
  clear hk
  go_wp2_with fail
  refine (right_yes ma _ a _ (HS.out.1.kept HK.out) HRa.out).mono ?_
  rintro e w2 ⟨rfl, hk⟩
  have hA0 := cell_kept hk hA0
  have hA1 := cell_kept hk hA1
  have hB0 := cell_kept hk hB0
  have hB1 := cell_kept hk hB1
  have HK : Hid (Kept w w2) := HK.out.trans hk
  clear hk
  go_wp2_with fail
  refine (right_yes mb _ b _ (HS.out.2.kept HK.out) HRb.out).mono ?_
  rintro e w3 ⟨rfl, hk⟩
  have hA0 := cell_kept hk hA0
  have hA1 := cell_kept hk hA1
  have hB0 := cell_kept hk hB0
  have hB1 := cell_kept hk hB1
  have HK : Hid (Kept w w3) := HK.out.trans hk
  clear hk
  go_wp2
  go_ret
  exact ⟨rfl, HK.out⟩

set_option maxRecDepth 100000 in
set_option maxHeartbeats 4000000 in
theorem ldiv_main (ma mb : Bool) (aa ab : Option Addr) (la lb ca cb : Nat) (a b : List Nat) (w : World) (ha : Sl w (.slice aa la ca) a) (hb : Sl w (.slice ab lb cb) b)
    (_hla : a.length ≤ 9223372036854775807) (_hlb : b.length ≤ 9223372036854775807) (hra : R ma a) (hrb : R mb b) (hb0 : 0 < b.length) (hshort : a.length + b.length ≤ 60) :
    Calls Tryd.prog 4 #[.agg #[.bool ma, .slice aa la ca], .agg #[.bool mb, .slice ab lb cb]] w fun e w' => e = .returned (.bool true) ∧ Kept w w' := by
  have HS : Hid (Sl w (.slice aa la ca) a ∧ Sl w (.slice ab lb cb) b) := ⟨ha, hb⟩
  have ela := ha.len
  have elb := hb.len
  have HRa : Hid (R ma a) := hra
  have HRb : Hid (R mb b) := hrb
  have hl1 : la ≤ 72 := by rw [ela]; exact hra.1
  have hl2 : lb ≤ 72 := by rw [elb]; exact hrb.1
  have hl3 : 0 < lb := by omega
  have hl4 : la + lb ≤ 60 := by omega
  have hl5 : ((lb : Int) == 0) = false := by simp; omega
  have HM : Hid ((M.int ma a * M.int mb b).natAbs < M.W72 ∧ 0 < b.length ∧ 0 < M.val b ∧ M.val a < M.W72 ∧ M.val b < M.W72) := ⟨fits_mul ha.bd hb.bd hshort, hb0, M.val_pos hrb.tr (fun e => by rw [e] at hb0; simp at hb0), M.lt_W72 ha.bd hra.1, M.lt_W72 hb.bd hrb.1⟩
  have HBA : Hid (M.Bd a ∧ M.Bd b) := ⟨ha.bd, hb.bd⟩
  clear hra hrb ela elb hb0 hshort ha hb
  go_enter Tryd.func4, Tryd.ntmps4
  go_wp2_with fail
  refine (awake_yes _).mono ?_
  rintro e w1 ⟨rfl, hk⟩
  obtain ⟨hA0, hA1, hB0, hB1⟩ := box_kept2 hk
  have HK : Hid (Kept w w1) := (((Kept.refl w).alloc _).alloc _).trans hk
  clear hk
  go_wp2_with fail
  refine (right_yes ma _ a _ (HS.out.1.kept HK.out) HRa.out).mono ?_
  rintro e w2 ⟨rfl, hk⟩
  have hA0 := cell_kept hk hA0
  have hA1 := cell_kept hk hA1
  have hB0 := cell_kept hk hB0
  have hB1 := cell_kept hk hB1
  have HK : Hid (Kept w w2) := HK.out.trans hk
  clear hk
  go_wp2_with fail
  refine (right_yes mb _ b _ (HS.out.2.kept HK.out) HRb.out).mono ?_
  rintro e w3 ⟨rfl, hk⟩
  have hA0 := cell_kept hk hA0
  have hA1 := cell_kept hk hA1
  have hB0 := cell_kept hk hB0
  have hB1 := cell_kept hk hB1
  have HK : Hid (Kept w w3) := HK.out.trans hk
  clear hk
  go_wp2_with fail
  refine (quoRem_any ma mb _ _ a b _ (HS.out.1.kept (HK.out.trans (Kept.refl w3))) (HS.out.2.kept (HK.out.trans (Kept.refl w3))) HRa.out HRb.out HM.out.2.1).mono ?_
  rintro e w4 ⟨hk, sQ, aQ, nQ, cQ, lQ, sR, aR, nR, cR, lR, rfl, hnq, hnr, hrq, hrr, hval, hlt, hiq, hir⟩
  have HNQ : Hid (∃ B, New B w4 (.slice aQ nQ cQ) lQ) := ⟨_, hnq⟩
  have HNR : Hid (∃ B, New B w4 (.slice aR nR cR) lR) := ⟨_, hnr⟩
  have HRQ : Hid (M.Right sQ lQ ∧ M.int sQ lQ = M.int (ma != mb) lQ) := ⟨hrq, hiq⟩
  have HRR : Hid (M.Right sR lR ∧ M.int sR lR = M.int ma lR ∧ nR = lR.length) := ⟨hrr, hir, hnr.len⟩
  have HV : Hid (M.val a = M.val lQ * M.val b + M.val lR ∧ M.val lR < M.val b) := ⟨hval, hlt⟩
  have hnR : nR ≤ 72 := by rw [hnr.len]; exact hrr.len
  have hA0 := cell_kept hk hA0
  have hA1 := cell_kept hk hA1
  have hB0 := cell_kept hk hB0
  have hB1 := cell_kept hk hB1
  have HK : Hid (Kept w w4) := HK.out.trans hk
  clear hk hnq hnr hrq hrr hval hlt hiq hir
  have gA0 := fun x0 x1 => cell_kept (((Kept.refl w4).alloc x0).alloc x1) hA0
  have gA1 := fun x0 x1 => cell_kept (((Kept.refl w4).alloc x0).alloc x1) hA1
  have gB0 := fun x0 x1 => cell_kept (((Kept.refl w4).alloc x0).alloc x1) hB0
  have gB1 := fun x0 x1 => cell_kept (((Kept.refl w4).alloc x0).alloc x1) hB1
  clear hA0 hA1 hB0 hB1
  go_wp2_with fail
  refine (mul_any sQ mb _ _ lQ b _ (HNQ.out.choose_spec.sl.kept (((Kept.refl w4).alloc _).alloc _)) (HS.out.2.kept (HK.out.trans (((Kept.refl w4).alloc _).alloc _))) (R.of_right HRQ.out.1) HRb.out).mono ?_
  rintro e w5 ⟨hk, sP, aP, nP, cP, kP, rfl, hF⟩
  rw [HRQ.out.2] at hF
  obtain ⟨rfl, lP, hn, hr, hi⟩ := fin_fits hF (by rw [Int.natAbs_mul, M.natAbs_int, M.natAbs_int]; have h8 := HV.out; have h9 := HM.out; omega)
  have HNP : Hid (∃ B, New B w5 (.slice aP nP cP) lP) := ⟨_, hn⟩
  have HRP : Hid (M.Right sP lP ∧ M.int sP lP = M.int (ma != mb) lQ * M.int mb b) := ⟨hr, hi⟩
  have hA0 := cell_kept hk (gA0 _ _)
  have hA1 := cell_kept hk (gA1 _ _)
  have hB0 := cell_kept hk (gB0 _ _)
  have hB1 := cell_kept hk (gB1 _ _)
  clear gA0 gA1 gB0 gB1
  obtain ⟨hQ0, hQ1, hR0, hR1⟩ := box_kept2 hk
  have HK : Hid (Kept w w5) := HK.out.trans ((((Kept.refl w4).alloc _).alloc _).trans hk)
  have HNQ : Hid (∃ B, New B w5 (.slice aQ nQ cQ) lQ) := ⟨_, HNQ.out.choose_spec.kept ((((Kept.refl w4).alloc _).alloc _).trans hk)⟩
  have HNR : Hid (∃ B, New B w5 (.slice aR nR cR) lR) := ⟨_, HNR.out.choose_spec.kept ((((Kept.refl w4).alloc _).alloc _).trans hk)⟩
  clear hk hF hn hr hi
  have gA0 := fun x0 => cell_kept ((Kept.refl w5).alloc x0) hA0
  have gA1 := fun x0 => cell_kept ((Kept.refl w5).alloc x0) hA1
  have gB0 := fun x0 => cell_kept ((Kept.refl w5).alloc x0) hB0
  have gB1 := fun x0 => cell_kept ((Kept.refl w5).alloc x0) hB1
  have gQ0 := fun x0 => cell_kept ((Kept.refl w5).alloc x0) hQ0
  have gQ1 := fun x0 => cell_kept ((Kept.refl w5).alloc x0) hQ1
  have gR0 := fun x0 => cell_kept ((Kept.refl w5).alloc x0) hR0
  have gR1 := fun x0 => cell_kept ((Kept.refl w5).alloc x0) hR1
  clear hA0 hA1 hB0 hB1 hQ0 hQ1 hR0 hR1
  go_wp2_with fail
  refine (add_any sP sR _ _ lP lR _ (HNP.out.choose_spec.sl.kept ((Kept.refl w5).alloc _)) (HNR.out.choose_spec.sl.kept ((Kept.refl w5).alloc _)) (R.of_right HRP.out.1) (R.of_right HRR.out.1)).mono ?_
  rintro e w6 ⟨hk, sS, aS, nS, cS, kS, rfl, hF⟩
  rw [HRP.out.2, HRR.out.2.1, quo_int HV.out.1] at hF
  obtain ⟨rfl, lS, hn, hr, hi⟩ := fin_fits hF (by rw [M.natAbs_int]; exact HM.out.2.2.2.1)
  have HNS : Hid (∃ B, New B w6 (.slice aS nS cS) lS) := ⟨_, hn⟩
  have HRS : Hid (M.Right sS lS ∧ M.int sS lS = M.int ma a) := ⟨hr, hi⟩
  have hA0 := cell_kept hk (gA0 _)
  have hA1 := cell_kept hk (gA1 _)
  have hB0 := cell_kept hk (gB0 _)
  have hB1 := cell_kept hk (gB1 _)
  have hQ0 := cell_kept hk (gQ0 _)
  have hQ1 := cell_kept hk (gQ1 _)
  have hR0 := cell_kept hk (gR0 _)
  have hR1 := cell_kept hk (gR1 _)
  clear gA0 gA1 gB0 gB1 gQ0 gQ1 gR0 gR1
  obtain ⟨hP0, hP1⟩ := box_kept hk
  have HK : Hid (Kept w w6) := HK.out.trans (((Kept.refl w5).alloc _).trans hk)
  have HNQ : Hid (∃ B, New B w6 (.slice aQ nQ cQ) lQ) := ⟨_, HNQ.out.choose_spec.kept (((Kept.refl w5).alloc _).trans hk)⟩
  have HNR : Hid (∃ B, New B w6 (.slice aR nR cR) lR) := ⟨_, HNR.out.choose_spec.kept (((Kept.refl w5).alloc _).trans hk)⟩
  have HNP : Hid (∃ B, New B w6 (.slice aP nP cP) lP) := ⟨_, HNP.out.choose_spec.kept (((Kept.refl w5).alloc _).trans hk)⟩
  clear hk hF hn hr hi
  have gA0 := fun x0 => cell_kept ((Kept.refl w6).alloc x0) hA0
  have gA1 := fun x0 => cell_kept ((Kept.refl w6).alloc x0) hA1
  have gB0 := fun x0 => cell_kept ((Kept.refl w6).alloc x0) hB0
  have gB1 := fun x0 => cell_kept ((Kept.refl w6).alloc x0) hB1
  have gQ0 := fun x0 => cell_kept ((Kept.refl w6).alloc x0) hQ0
  have gQ1 := fun x0 => cell_kept ((Kept.refl w6).alloc x0) hQ1
  have gR0 := fun x0 => cell_kept ((Kept.refl w6).alloc x0) hR0
  have gR1 := fun x0 => cell_kept ((Kept.refl w6).alloc x0) hR1
  have gP0 := fun x0 => cell_kept ((Kept.refl w6).alloc x0) hP0
  have gP1 := fun x0 => cell_kept ((Kept.refl w6).alloc x0) hP1
  clear hA0 hA1 hB0 hB1 hQ0 hQ1 hR0 hR1 hP0 hP1
  go_wp2_with fail
  refine (lsame_any true sS ma _ _ lS a _ (HNS.out.choose_spec.sl.kept ((Kept.refl w6).alloc _)) (HS.out.1.kept (HK.out.trans ((Kept.refl w6).alloc _))) (by have := (R.of_right HRS.out.1).1; omega) (by have := HRa.out.1; omega) (decide_eq_true (M.int_inj HRS.out.1 (HRa.out.right HBA.out.1) HRS.out.2)).symm).mono ?_
  rintro e w7 ⟨rfl, hk⟩
  have hA0 := cell_kept hk (gA0 _)
  have hA1 := cell_kept hk (gA1 _)
  have hB0 := cell_kept hk (gB0 _)
  have hB1 := cell_kept hk (gB1 _)
  have hQ0 := cell_kept hk (gQ0 _)
  have hQ1 := cell_kept hk (gQ1 _)
  have hR0 := cell_kept hk (gR0 _)
  have hR1 := cell_kept hk (gR1 _)
  have hP0 := cell_kept hk (gP0 _)
  have hP1 := cell_kept hk (gP1 _)
  clear gA0 gA1 gB0 gB1 gQ0 gQ1 gR0 gR1 gP0 gP1
  obtain ⟨hS0, hS1⟩ := box_kept hk
  have HK : Hid (Kept w w7) := HK.out.trans (((Kept.refl w6).alloc _).trans hk)
  have HNQ : Hid (∃ B, New B w7 (.slice aQ nQ cQ) lQ) := ⟨_, HNQ.out.choose_spec.kept (((Kept.refl w6).alloc _).trans hk)⟩
  have HNR : Hid (∃ B, New B w7 (.slice aR nR cR) lR) := ⟨_, HNR.out.choose_spec.kept (((Kept.refl w6).alloc _).trans hk)⟩
  have HNP : Hid (∃ B, New B w7 (.slice aP nP cP) lP) := ⟨_, HNP.out.choose_spec.kept (((Kept.refl w6).alloc _).trans hk)⟩
  have HNS : Hid (∃ B, New B w7 (.slice aS nS cS) lS) := ⟨_, HNS.out.choose_spec.kept (((Kept.refl w6).alloc _).trans hk)⟩
  clear hk
  clear hQ0 hQ1
  clear hP0 hP1
  clear hS0 hS1
  clear HNQ
  clear HNP
  clear HNS
  have hrs : nR ≤ 0 ∨ (0 < nR ∧ sR = ma) := by
    by_cases h : 0 < nR
    · have h9 := HRR.out
      exact .inr ⟨h, sign_of_int (M.val_pos h9.1.tr (fun e => by rw [e] at h9; simp at h9; omega)) h9.2.1⟩
    · exact .inl (by omega)
  have hlr : R false lR := R.of_right ⟨HRR.out.1.bd, HRR.out.1.tr, HRR.out.1.len, fun _ => rfl⟩
  have hlb : R false b := R.of_right ⟨HBA.out.2, HRb.out.tr, HRb.out.1, fun _ => rfl⟩
  have HRF : Hid (R false lR ∧ R false b) := ⟨hlr, hlb⟩
  have HCM : Hid (isgn (M.int false lR) (M.int false b) = -1) := by
    show isgn _ _ = -1
    have h9 := HV.out.2
    unfold isgn M.int
    simp only [Bool.false_eq_true, if_false]
    rw [if_pos (by omega)]
  clear hlr hlb
  rcases hrs with hrs | ⟨hrs, hrs2⟩
  all_goals
    go_wp2_with fail
    refine (icmp_any false false _ _ lR b _ (HNR.out.choose_spec.sl.kept (Kept.refl w7)) (HS.out.2.kept (HK.out.trans (Kept.refl w7))) HRF.out.1 HRF.out.2).mono ?_
    rintro e w8 ⟨rfl, hk⟩
    rw [HCM.out]
    have hA0 := cell_kept hk hA0
    have hA1 := cell_kept hk hA1
    have hB0 := cell_kept hk hB0
    have hB1 := cell_kept hk hB1
    have hR0 := cell_kept hk hR0
    have hR1 := cell_kept hk hR1
    have HK : Hid (Kept w w8) := HK.out.trans hk
    have HNR : Hid (∃ B, New B w8 (.slice aR nR cR) lR) := ⟨_, HNR.out.choose_spec.kept hk⟩
    clear hk
    clear hR0 hR1
    clear HNR
    go_wp2_with fail
    refine (mul_any ma mb _ _ a b _ (HS.out.1.kept (HK.out.trans (Kept.refl w8))) (HS.out.2.kept (HK.out.trans (Kept.refl w8))) HRa.out HRb.out).mono ?_
    rintro e w9 ⟨hk, sMm, aMm, nMm, cMm, kMm, rfl, hF⟩
    skip
    obtain ⟨rfl, lMm, hn, hr, hi⟩ := fin_fits hF HM.out.1
    have HNMm : Hid (∃ B, New B w9 (.slice aMm nMm cMm) lMm) := ⟨_, hn⟩
    have HRMm : Hid (M.Right sMm lMm ∧ M.int sMm lMm = M.int ma a * M.int mb b) := ⟨hr, hi⟩
    have hA0 := cell_kept hk hA0
    have hA1 := cell_kept hk hA1
    have hB0 := cell_kept hk hB0
    have hB1 := cell_kept hk hB1
    have HK : Hid (Kept w w9) := HK.out.trans hk
    clear hk hF hn hr hi
    have gA0 := fun x0 => cell_kept ((Kept.refl w9).alloc x0) hA0
    have gA1 := fun x0 => cell_kept ((Kept.refl w9).alloc x0) hA1
    have gB0 := fun x0 => cell_kept ((Kept.refl w9).alloc x0) hB0
    have gB1 := fun x0 => cell_kept ((Kept.refl w9).alloc x0) hB1
    clear hA0 hA1 hB0 hB1
    go_wp2_with fail
    refine (exact_any sMm mb _ _ lMm b _ (HNMm.out.choose_spec.sl.kept ((Kept.refl w9).alloc _)) (HS.out.2.kept (HK.out.trans ((Kept.refl w9).alloc _))) (R.of_right HRMm.out.1) HRb.out HM.out.2.1).mono ?_
    rintro e w10 ⟨hk, hE⟩
    have hdv : M.val b ∣ M.val lMm := by rw [← M.natAbs_int sMm lMm, HRMm.out.2, Int.natAbs_mul, M.natAbs_int, M.natAbs_int]; exact Nat.dvd_mul_left _ _
    obtain ⟨_, sX, aX, nX, cX, lX, rfl, hn, hr, hi⟩ := hE.resolve_right (fun h => h.1 hdv)
    have HNX : Hid (∃ B, New B w10 (.slice aX nX cX) lX) := ⟨_, hn⟩
    have HRX : Hid (M.Right sX lX ∧ M.int sX lX = M.int ma a) := ⟨hr, by rw [HRMm.out.2] at hi; exact Int.eq_of_mul_eq_mul_right (by intro e; have h9 := HM.out.2.2.1; rw [← M.natAbs_int mb b, e] at h9; simp at h9) hi⟩
    have hA0 := cell_kept hk (gA0 _)
    have hA1 := cell_kept hk (gA1 _)
    have hB0 := cell_kept hk (gB0 _)
    have hB1 := cell_kept hk (gB1 _)
    clear gA0 gA1 gB0 gB1
    obtain ⟨hMm0, hMm1⟩ := box_kept hk
    have HK : Hid (Kept w w10) := HK.out.trans (((Kept.refl w9).alloc _).trans hk)
    have HNMm : Hid (∃ B, New B w10 (.slice aMm nMm cMm) lMm) := ⟨_, HNMm.out.choose_spec.kept (((Kept.refl w9).alloc _).trans hk)⟩
    clear hk hE hdv hn hr hi
    have gA0 := fun x0 => cell_kept ((Kept.refl w10).alloc x0) hA0
    have gA1 := fun x0 => cell_kept ((Kept.refl w10).alloc x0) hA1
    have gB0 := fun x0 => cell_kept ((Kept.refl w10).alloc x0) hB0
    have gB1 := fun x0 => cell_kept ((Kept.refl w10).alloc x0) hB1
    have gMm0 := fun x0 => cell_kept ((Kept.refl w10).alloc x0) hMm0
    have gMm1 := fun x0 => cell_kept ((Kept.refl w10).alloc x0) hMm1
    clear hA0 hA1 hB0 hB1 hMm0 hMm1
    go_wp2_with fail
    refine (lsame_any true sX ma _ _ lX a _ (HNX.out.choose_spec.sl.kept ((Kept.refl w10).alloc _)) (HS.out.1.kept (HK.out.trans ((Kept.refl w10).alloc _))) (by have := (R.of_right HRX.out.1).1; omega) (by have := HRa.out.1; omega) (decide_eq_true (M.int_inj HRX.out.1 (HRa.out.right HBA.out.1) HRX.out.2)).symm).mono ?_
    rintro e w11 ⟨rfl, hk⟩
    have hA0 := cell_kept hk (gA0 _)
    have hA1 := cell_kept hk (gA1 _)
    have hB0 := cell_kept hk (gB0 _)
    have hB1 := cell_kept hk (gB1 _)
    have hMm0 := cell_kept hk (gMm0 _)
    have hMm1 := cell_kept hk (gMm1 _)
    clear gA0 gA1 gB0 gB1 gMm0 gMm1
    obtain ⟨hX0, hX1⟩ := box_kept hk
    have HK : Hid (Kept w w11) := HK.out.trans (((Kept.refl w10).alloc _).trans hk)
    have HNMm : Hid (∃ B, New B w11 (.slice aMm nMm cMm) lMm) := ⟨_, HNMm.out.choose_spec.kept (((Kept.refl w10).alloc _).trans hk)⟩
    have HNX : Hid (∃ B, New B w11 (.slice aX nX cX) lX) := ⟨_, HNX.out.choose_spec.kept (((Kept.refl w10).alloc _).trans hk)⟩
    clear hk
    clear hMm0 hMm1
    clear hX0 hX1
    clear HNMm
    clear HNX
    go_wp2_with fail
    refine (gcd_any ma mb _ _ a b _ (HS.out.1.kept (HK.out.trans (Kept.refl w11))) (HS.out.2.kept (HK.out.trans (Kept.refl w11))) HRa.out HRb.out).mono ?_
    rintro e w12 ⟨hk, aD, nD, cD, lD, rfl, hn, hr, hv⟩
    have HND : Hid (∃ B, New B w12 (.slice aD nD cD) lD) := ⟨_, hn⟩
    have HRD : Hid (M.Right false lD ∧ M.val lD = Nat.gcd (M.val a) (M.val b)) := ⟨hr, hv⟩
    have hA0 := cell_kept hk hA0
    have hA1 := cell_kept hk hA1
    have hB0 := cell_kept hk hB0
    have hB1 := cell_kept hk hB1
    have HK : Hid (Kept w w12) := HK.out.trans hk
    clear hk hn hr hv
    have gA0 := fun x0 => cell_kept ((Kept.refl w12).alloc x0) hA0
    have gA1 := fun x0 => cell_kept ((Kept.refl w12).alloc x0) hA1
    have gB0 := fun x0 => cell_kept ((Kept.refl w12).alloc x0) hB0
    have gB1 := fun x0 => cell_kept ((Kept.refl w12).alloc x0) hB1
    clear hA0 hA1 hB0 hB1
    have HD0 : Hid (0 < M.val lD ∧ 0 < lD.length) := by
      have h1 : 0 < M.val lD := by rw [HRD.out.2]; exact Nat.gcd_pos_of_pos_right _ HM.out.2.2.1
      refine ⟨h1, ?_⟩
      rcases Nat.eq_zero_or_pos lD.length with h2 | h2
      · rw [List.length_eq_zero_iff.1 h2] at h1; simp [M.val] at h1
      · exact h2
    go_wp2_with fail
    refine (exact_any ma false _ _ a lD _ (HS.out.1.kept (HK.out.trans ((Kept.refl w12).alloc _))) (HND.out.choose_spec.sl.kept ((Kept.refl w12).alloc _)) HRa.out (R.of_right HRD.out.1) HD0.out.2).mono ?_
    rintro e w13 ⟨hk, hE⟩
    have hdv : M.val lD ∣ M.val a := by rw [HRD.out.2]; exact Nat.gcd_dvd_left _ _
    obtain ⟨_, sY, aY, nY, cY, lY, rfl, hn, hr, hi⟩ := hE.resolve_right (fun h => h.1 hdv)
    have HNY : Hid (∃ B, New B w13 (.slice aY nY cY) lY) := ⟨_, hn⟩
    have HRY : Hid (M.Right sY lY ∧ M.int sY lY * M.int false lD = M.int ma a) := ⟨hr, hi⟩
    have hA0 := cell_kept hk (gA0 _)
    have hA1 := cell_kept hk (gA1 _)
    have hB0 := cell_kept hk (gB0 _)
    have hB1 := cell_kept hk (gB1 _)
    clear gA0 gA1 gB0 gB1
    obtain ⟨hD0, hD1⟩ := box_kept hk
    have HK : Hid (Kept w w13) := HK.out.trans (((Kept.refl w12).alloc _).trans hk)
    have HND : Hid (∃ B, New B w13 (.slice aD nD cD) lD) := ⟨_, HND.out.choose_spec.kept (((Kept.refl w12).alloc _).trans hk)⟩
    clear hk hE hdv hn hr hi
    have gA0 := fun x0 => cell_kept ((Kept.refl w13).alloc x0) hA0
    have gA1 := fun x0 => cell_kept ((Kept.refl w13).alloc x0) hA1
    have gB0 := fun x0 => cell_kept ((Kept.refl w13).alloc x0) hB0
    have gB1 := fun x0 => cell_kept ((Kept.refl w13).alloc x0) hB1
    have gD0 := fun x0 => cell_kept ((Kept.refl w13).alloc x0) hD0
    have gD1 := fun x0 => cell_kept ((Kept.refl w13).alloc x0) hD1
    clear hA0 hA1 hB0 hB1 hD0 hD1
    go_wp2_with fail
    refine (exact_any mb false _ _ b lD _ (HS.out.2.kept (HK.out.trans ((Kept.refl w13).alloc _))) (HND.out.choose_spec.sl.kept ((Kept.refl w13).alloc _)) HRb.out (R.of_right HRD.out.1) HD0.out.2).mono ?_
    rintro e w14 ⟨hk, hE⟩
    have hdv : M.val lD ∣ M.val b := by rw [HRD.out.2]; exact Nat.gcd_dvd_right _ _
    obtain ⟨_, sZ, aZ, nZ, cZ, lZ, rfl, hn, hr, hi⟩ := hE.resolve_right (fun h => h.1 hdv)
    have HNZ : Hid (∃ B, New B w14 (.slice aZ nZ cZ) lZ) := ⟨_, hn⟩
    have HRZ : Hid (M.Right sZ lZ ∧ M.int sZ lZ * M.int false lD = M.int mb b) := ⟨hr, hi⟩
    have hA0 := cell_kept hk (gA0 _)
    have hA1 := cell_kept hk (gA1 _)
    have hB0 := cell_kept hk (gB0 _)
    have hB1 := cell_kept hk (gB1 _)
    have hD0 := cell_kept hk (gD0 _)
    have hD1 := cell_kept hk (gD1 _)
    clear gA0 gA1 gB0 gB1 gD0 gD1
    obtain ⟨hY0, hY1⟩ := box_kept hk
    have HK : Hid (Kept w w14) := HK.out.trans (((Kept.refl w13).alloc _).trans hk)
    have HND : Hid (∃ B, New B w14 (.slice aD nD cD) lD) := ⟨_, HND.out.choose_spec.kept (((Kept.refl w13).alloc _).trans hk)⟩
    have HNY : Hid (∃ B, New B w14 (.slice aY nY cY) lY) := ⟨_, HNY.out.choose_spec.kept (((Kept.refl w13).alloc _).trans hk)⟩
    clear hk hE hdv hn hr hi
    have gA0 := fun x0 => cell_kept ((Kept.refl w14).alloc x0) hA0
    have gA1 := fun x0 => cell_kept ((Kept.refl w14).alloc x0) hA1
    have gB0 := fun x0 => cell_kept ((Kept.refl w14).alloc x0) hB0
    have gB1 := fun x0 => cell_kept ((Kept.refl w14).alloc x0) hB1
    have gD0 := fun x0 => cell_kept ((Kept.refl w14).alloc x0) hD0
    have gD1 := fun x0 => cell_kept ((Kept.refl w14).alloc x0) hD1
    have gY0 := fun x0 => cell_kept ((Kept.refl w14).alloc x0) hY0
    have gY1 := fun x0 => cell_kept ((Kept.refl w14).alloc x0) hY1
    clear hA0 hA1 hB0 hB1 hD0 hD1 hY0 hY1
    go_wp2_with fail
    refine (gcd_any sY sZ _ _ lY lZ _ (HNY.out.choose_spec.sl.kept ((Kept.refl w14).alloc _)) (HNZ.out.choose_spec.sl.kept ((Kept.refl w14).alloc _)) (R.of_right HRY.out.1) (R.of_right HRZ.out.1)).mono ?_
    rintro e w15 ⟨hk, aO, nO, cO, lO, rfl, hn, hr, hv⟩
    have HNO : Hid (∃ B, New B w15 (.slice aO nO cO) lO) := ⟨_, hn⟩
    have HRO : Hid (M.Right false lO ∧ M.val lO = 1) := ⟨hr, by rw [hv, ← M.natAbs_int sY lY, ← M.natAbs_int sZ lZ]; exact gcd_parts (g := M.val lD) (by rw [M.natAbs_int, M.natAbs_int]; exact HRD.out.2) HD0.out.1 rfl HRY.out.2 HRZ.out.2⟩
    have hA0 := cell_kept hk (gA0 _)
    have hA1 := cell_kept hk (gA1 _)
    have hB0 := cell_kept hk (gB0 _)
    have hB1 := cell_kept hk (gB1 _)
    have hD0 := cell_kept hk (gD0 _)
    have hD1 := cell_kept hk (gD1 _)
    have hY0 := cell_kept hk (gY0 _)
    have hY1 := cell_kept hk (gY1 _)
    clear gA0 gA1 gB0 gB1 gD0 gD1 gY0 gY1
    obtain ⟨hZ0, hZ1⟩ := box_kept hk
    have HK : Hid (Kept w w15) := HK.out.trans (((Kept.refl w14).alloc _).trans hk)
    have HND : Hid (∃ B, New B w15 (.slice aD nD cD) lD) := ⟨_, HND.out.choose_spec.kept (((Kept.refl w14).alloc _).trans hk)⟩
    have HNY : Hid (∃ B, New B w15 (.slice aY nY cY) lY) := ⟨_, HNY.out.choose_spec.kept (((Kept.refl w14).alloc _).trans hk)⟩
    have HNZ : Hid (∃ B, New B w15 (.slice aZ nZ cZ) lZ) := ⟨_, HNZ.out.choose_spec.kept (((Kept.refl w14).alloc _).trans hk)⟩
    clear hk hn hr hv
    have gA0 := fun x0 => cell_kept ((Kept.refl w15).alloc x0) hA0
    have gA1 := fun x0 => cell_kept ((Kept.refl w15).alloc x0) hA1
    have gB0 := fun x0 => cell_kept ((Kept.refl w15).alloc x0) hB0
    have gB1 := fun x0 => cell_kept ((Kept.refl w15).alloc x0) hB1
    have gD0 := fun x0 => cell_kept ((Kept.refl w15).alloc x0) hD0
    have gD1 := fun x0 => cell_kept ((Kept.refl w15).alloc x0) hD1
    have gY0 := fun x0 => cell_kept ((Kept.refl w15).alloc x0) hY0
    have gY1 := fun x0 => cell_kept ((Kept.refl w15).alloc x0) hY1
    have gZ0 := fun x0 => cell_kept ((Kept.refl w15).alloc x0) hZ0
    have gZ1 := fun x0 => cell_kept ((Kept.refl w15).alloc x0) hZ1
    clear hA0 hA1 hB0 hB1 hD0 hD1 hY0 hY1 hZ0 hZ1
    clear gA0 gA1 gB0 gB1 gY0 gY1 gZ0 gZ1
    have HKD : ∀ W, Kept (w15.alloc (.cells #[.bool false, .slice aO nO cO] 24)) W → W.cell? ⟨w12.heap.size, 0, none⟩ = some (.bool false) := fun W hW => cell_kept hW (gD0 _)
    have hD0 := gD0 (.cells #[.bool false, .slice aO nO cO] 24)
    have hO := box_kept (Kept.refl (w15.alloc (.cells #[.bool false, .slice aO nO cO] 24)))
    obtain ⟨hO0, hO1⟩ := hO
    have HKD' : Hid (∀ W, Kept (w15.alloc (.cells #[.bool false, .slice aO nO cO] 24)) W → W.cell? ⟨w12.heap.size, 0, none⟩ = some (.bool false)) := HKD
    clear gD0 gD1 HKD
    go_wp2_with fail
    go_region_held3 (fun w' => w'.cell? ⟨w12.heap.size, 0, none⟩ = some (.bool false) ∧ w'.cell? ⟨w15.heap.size, 0, none⟩ = some (.bool false) ∧ w'.cell? ⟨w15.heap.size, 1, none⟩ = some (.slice aO nO cO)) (go_keep) (first
      | (go_at_call 19; refine (of_any 1 _ (by omega) (by omega)).mono ?_; rintro e w50 ⟨hk50, s1, a1, n1, c1, l1, rfl, hn1, hr1, hi1⟩; obtain ⟨hb0, hb1⟩ := box_kept ((Kept.refl _).drew.trans hk50); have hb2 := HKD'.out _ ((Kept.refl _).drew.trans hk50))
      | (go_at_call 13; refine (lsame_any true false s1 _ _ lO l1 _ (HNO.out.choose_spec.sl.kept ((((Kept.refl w15).alloc _).drew).trans hk50)) hn1.sl (by have := HRO.out.1.len; omega) (by have := hr1.len; omega) (decide_eq_true (M.int_inj HRO.out.1 hr1 (by rw [hi1]; unfold M.int; simp [HRO.out.2]))).symm).mono ?_; rintro e w51 ⟨rfl, hk51⟩; obtain ⟨hb3, hb4⟩ := box_kept (((Kept.refl _).drew.trans hk50).trans hk51); have hb5 := HKD'.out _ (((Kept.refl _).drew.trans hk50).trans hk51)))
    have HF : Hid (Kept w w51) := ((HK.out.trans ((((Kept.refl w15).alloc _).drew).trans hk50))).trans hk51
    clear hk50 hk51 hb0 hb1 hb2 hb3 hb4 hb5
    go_wp2
    go_ret
    exact ⟨rfl, HF.out⟩

end Go.Proofs.YthijnnififodjaaDoor

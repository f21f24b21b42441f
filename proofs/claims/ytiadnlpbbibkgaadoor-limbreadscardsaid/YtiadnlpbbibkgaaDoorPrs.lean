/- Parse. -/
import Derived.Test.YtiadnlpbbibkgaaDoorMag
import Derived.Test.YtiadnlpbbibkgaaDoorSsum
namespace Go.Proofs.YtiadnlpbbibkgaaDoor
open Go.RowKit

theorem ext_one (s : ByteArray) (h : 0 < s.size) : (s.extract 0 1).toList = [s[0]] := by
  rw [Go.ByteArray.toList_eq]
  have e : (s.extract 0 1).data.toList = s.data.toList.take 1 := by simp [ByteArray.data_extract]
  rw [e, take_get s 0 h]; rfl

theorem ext_rest (s : ByteArray) : (s.extract 1 s.size).data.toList = s.data.toList.drop 1 := by
  simp [ByteArray.data_extract]
  exact List.take_of_length_le (by rw [List.length_tail, list_len]; exact Nat.le_refl _)

/-- The bytes of a whole number's text. -/
def txs (m : Bool) (D : List UInt8) : List UInt8 := if m then 45 :: D else D

/-- What Parse takes. -/
def Good (L : List UInt8) (m : Bool) (D : List UInt8) : Prop := L = txs m D ∧ Plain D ∧ (m = true → NZ D)

theorem plain_dig {D : List UInt8} (h : Plain D) : Dig D := by
  rcases h with rfl | h
  · intro c hc; simp at hc; subst hc; decide
  · exact h.dig

theorem plain_ne {D : List UInt8} (h : Plain D) : D ≠ [] := by
  rcases h with rfl | h
  · simp
  · exact h.ne

theorem beq_sign (s : ByteArray) (h : 0 < s.size) : ((s.extract 0 1).toList == [45]) = decide (s[0].toNat = 45) := by
  rw [ext_one s h]
  by_cases e : s[0].toNat = 45
  · have : s[0] = 45 := UInt8.toNat_inj.1 (by rw [e]; rfl)
    rw [decide_eq_true e, this]; rfl
  · rw [decide_eq_false e]
    have : ¬ s[0] = 45 := fun h => e (by rw [h]; rfl)
    simp [this]

set_option maxHeartbeats 1000000 in
theorem cut_yes (s : ByteArray) (w : World) (hs : s.size ≤ 1024) (h : 0 < s.size) (hc : s[0].toNat = 45) :
    Calls Tryd.prog 61 #[.string s, .string ⟨#[45]⟩] w fun e w' => w' = w ∧ e = .returned (.tuple #[.string (s.extract 1 s.size), .bool true]) := by
  have hx : ((s.extract 0 1).toList == [45]) = true := by rw [beq_sign s h, decide_eq_true hc]
  have H1 : Hid (∀ w, Calls Tryd.prog 99 #[.string s, .string ⟨#[45]⟩] w fun e w' => w' = w ∧ e = .returned (.bool true)) := by
    intro w
    go_enter Tryd.func99, Tryd.ntmps99
    go_wp2
    go_ret
    exact ⟨rfl, rfl⟩
  have H2 : Hid (∀ w, Calls Tryd.prog 87 #[.string s, .string ⟨#[45]⟩] w fun e w' => w' = w ∧ e = .returned (.tuple #[.string (s.extract 1 s.size), .bool true])) := by
    intro w
    clear hx
    go_enter Tryd.func87, Tryd.ntmps87
    go_wp2_with fail
    refine (H1.out _).mono ?_
    rintro e w1 ⟨rfl, rfl⟩
    go_wp2
    go_ret2
    exact ⟨rfl, rfl⟩
  clear hx
  go_enter Tryd.func61, Tryd.ntmps61
  go_wp2_with fail
  refine (H2.out _).mono ?_
  rintro e w1 ⟨rfl, rfl⟩
  go_wp2
  go_ret2
  exact ⟨rfl, rfl⟩

set_option maxHeartbeats 1000000 in
theorem cut_no (s : ByteArray) (w : World) (hs : s.size ≤ 1024) (h : ∀ h : 0 < s.size, ¬ s[0].toNat = 45) :
    Calls Tryd.prog 61 #[.string s, .string ⟨#[45]⟩] w fun e w' => w' = w ∧ e = .returned (.tuple #[.string s, .bool false]) := by
  have H1 : Hid (∀ w, Calls Tryd.prog 99 #[.string s, .string ⟨#[45]⟩] w fun e w' => w' = w ∧ e = .returned (.bool false)) := by
    intro w
    by_cases h0 : 0 < s.size
    · have hx : ((s.extract 0 1).toList == [45]) = false := by rw [beq_sign s h0, decide_eq_false (h h0)]
      clear h
      go_enter Tryd.func99, Tryd.ntmps99
      go_wp2
      go_ret
      exact ⟨rfl, rfl⟩
    · clear h
      go_enter Tryd.func99, Tryd.ntmps99
      go_wp2
      go_ret
      exact ⟨rfl, rfl⟩
  clear h
  have H2 : Hid (∀ w, Calls Tryd.prog 87 #[.string s, .string ⟨#[45]⟩] w fun e w' => w' = w ∧ e = .returned (.tuple #[.string s, .bool false])) := by
    intro w
    go_enter Tryd.func87, Tryd.ntmps87
    go_wp2_with fail
    refine (H1.out _).mono ?_
    rintro e w1 ⟨rfl, rfl⟩
    go_wp2
    go_ret2
    exact ⟨rfl, rfl⟩
  go_enter Tryd.func61, Tryd.ntmps61
  go_wp2_with fail
  refine (H2.out _).mono ?_
  rintro e w1 ⟨rfl, rfl⟩
  go_wp2
  go_ret2
  exact ⟨rfl, rfl⟩

theorem size_of {s : ByteArray} {L : List UInt8} (h : s.data.toList = L) : s.size = L.length := by rw [← list_len, h]

theorem get_of {s : ByteArray} {c : UInt8} {t : List UInt8} (h : s.data.toList = c :: t) (h0 : 0 < s.size) : s[0] = c := by
  have := head_get s h0
  rw [h] at this
  simpa using this.symm

theorem beq_zero {t : ByteArray} {D : List UInt8} (h : t.data.toList = D) : (t.toList == [48]) = decide (D = [48]) := by
  rw [Go.ByteArray.toList_eq, h]
  by_cases e : D = [48]
  · rw [decide_eq_true e, e]; rfl
  · rw [decide_eq_false e]; simp [e]

set_option maxRecDepth 100000 in
set_option maxHeartbeats 2000000 in
theorem parse_long (s : ByteArray) (w : World) (hs : 1024 < s.size) (hm : s.size ≤ maxLen) : Calls Tryd.prog 34 #[.string s] w fun e w' => Kept w w' ∧ e = .returned (.tuple #[.agg #[.bool false, .slice none 0 0], .int .i64 2]) := by
  unfold maxLen at hm
  go_enter Tryd.func34, Tryd.ntmps34
  go_wp2
  exact bodyPost_ret (v := .tuple #[.agg #[.bool false, .slice none 0 0], .int .i64 2]) (by simp [results, Tryd.results34, go_sem]) rfl ⟨(Kept.refl w).alloc _, rfl⟩

set_option maxRecDepth 100000 in
set_option maxHeartbeats 2000000 in
theorem parse_pos (s : ByteArray) (w : World) (hs : s.size ≤ 1024) (hp : Plain s.data.toList) :
    Calls Tryd.prog 34 #[.string s] w fun e w' => Kept w w' ∧ AnsIs w.heap.size w' e (dv s.data.toList : Int) := by
  have hne : ∀ h : 0 < s.size, ¬ s[0].toNat = 45 := fun h e => by have := dig_get (plain_dig hp) 0 h; omega
  have HP : Hid (Plain s.data.toList) := hp
  have HNE : Hid (∀ h : 0 < s.size, ¬ s[0].toNat = 45) := hne
  clear hp hne
  go_enter Tryd.func34, Tryd.ntmps34
  go_wp2_with fail
  refine (cut_no s _ hs HNE.out).mono ?_
  rintro e w1 ⟨rfl, rfl⟩
  go_wp2_with fail
  refine (plain_yes s _ hs HP.out).mono ?_
  rintro e w1 ⟨rfl, rfl⟩
  go_wp2_with fail
  refine (mag_any s _ hs (plain_dig HP.out)).mono ?_
  rintro e w2 ⟨hk, v', l', rfl, hn, ht, hv, hl⟩
  go_wp2_with fail
  refine (answer_any false v' l' w2 hn ht hl).mono ?_
  rintro e w3 ⟨hk2, s3, ao, nn, cap, c, rfl, hF⟩
  have hKW := hk.trans hk2
  have hc := hKW.cells
  have hf := hKW.frozens
  have HK : Hid (Kept w w3) := ((Kept.refl w).alloc _).trans hKW
  have HF : Hid (Fin (w.heap.size + 1) w3 s3 (.slice ao nn cap) c (dv s.data.toList : Int)) := by
    show Fin _ _ _ _ _ _
    rw [show M.int false l' = (dv s.data.toList : Int) by simp [M.int, hv]] at hF
    simpa using hF
  clear hk hk2 hn ht hv hl hF hKW
  go_wp2
  exact bodyPost_ret (v := .tuple #[.agg #[.bool s3, .slice ao nn cap], .int .i64 c]) (by simp [results, Tryd.results34, go_sem, hc]) rfl ⟨(HK.out.setCell (by simp) _).setCell (by simp) _, _, _, _, _, _, rfl, ((HF.out.other (by simp) _).other (by simp) _).mono (by omega)⟩

set_option maxRecDepth 100000 in
set_option maxHeartbeats 2000000 in
theorem parse_neg (s : ByteArray) (D : List UInt8) (w : World) (hs : s.size ≤ 1024) (hL : s.data.toList = 45 :: D) (hp : NZ D) :
    Calls Tryd.prog 34 #[.string s] w fun e w' => Kept w w' ∧ AnsIs w.heap.size w' e (-(dv D : Int)) := by
  have h0 : 0 < s.size := by rw [size_of hL]; simp
  have hc45 : s[0].toNat = 45 := by rw [get_of hL h0]; rfl
  have hD : (s.extract 1 s.size).data.toList = D := by rw [ext_rest, hL]; rfl
  have hz : ((s.extract 1 s.size).toList == [48]) = false := by
    rw [beq_zero hD]
    exact decide_eq_false (fun e => by subst e; exact hp.head 48 rfl rfl)
  have hts : (s.extract 1 s.size).size ≤ 1024 := by rw [size_of hD]; have := size_of hL; simp at this; omega
  obtain ⟨t, ht⟩ : ∃ t, t = s.extract 1 s.size := ⟨_, rfl⟩
  rw [← ht] at hD hz hts
  have HT : Hid (t = s.extract 1 s.size) := ht
  have HD : Hid (t.data.toList = D ∧ NZ D ∧ s[0].toNat = 45) := ⟨hD, hp, hc45⟩
  have HP : Hid (Plain t.data.toList) := by
    show Plain _
    rw [hD]; exact .inr hp
  clear ht hD hp hc45 hL
  go_enter Tryd.func34, Tryd.ntmps34
  go_wp2_with fail
  refine (cut_yes s _ hs h0 HD.out.2.2).mono ?_
  rintro e w1 ⟨rfl, rfl⟩
  rw [← HT.out]
  go_wp2_with fail
  refine (plain_yes t _ hts HP.out).mono ?_
  rintro e w1 ⟨rfl, rfl⟩
  go_wp2_with fail
  refine (mag_any t _ hts (plain_dig HP.out)).mono ?_
  rintro e w2 ⟨hk, v', l', rfl, hn, ht, hv, hl⟩
  go_wp2_with fail
  refine (answer_any true v' l' w2 hn ht hl).mono ?_
  rintro e w3 ⟨hk2, s3, ao, nn, cap, c, rfl, hF⟩
  have hKW := hk.trans hk2
  have hc := hKW.cells
  have hf := hKW.frozens
  have HK : Hid (Kept w w3) := ((Kept.refl w).alloc _).trans hKW
  have HF : Hid (Fin (w.heap.size + 1) w3 s3 (.slice ao nn cap) c (-(dv D : Int))) := by
    show Fin _ _ _ _ _ _
    rw [show M.int true l' = -(dv D : Int) by simp [M.int, hv, HD.out.1]] at hF
    simpa using hF
  clear hk hk2 hn ht hv hl hF hKW
  go_wp2
  exact bodyPost_ret (v := .tuple #[.agg #[.bool s3, .slice ao nn cap], .int .i64 c]) (by simp [results, Tryd.results34, go_sem, hc]) rfl ⟨(HK.out.setCell (by simp) _).setCell (by simp) _, _, _, _, _, _, rfl, ((HF.out.other (by simp) _).other (by simp) _).mono (by omega)⟩

set_option maxRecDepth 100000 in
set_option maxHeartbeats 2000000 in
theorem parse_bad1 (s : ByteArray) (w : World) (hs : s.size ≤ 1024) (hne : ∀ h : 0 < s.size, ¬ s[0].toNat = 45) (hp : ¬ Plain s.data.toList) :
    Calls Tryd.prog 34 #[.string s] w fun e w' => Kept w w' ∧ e = .returned (.tuple #[.agg #[.bool false, .slice none 0 0], .int .i64 3]) := by
  have HP : Hid (¬ Plain s.data.toList) := hp
  have HNE : Hid (∀ h : 0 < s.size, ¬ s[0].toNat = 45) := hne
  clear hp hne
  go_enter Tryd.func34, Tryd.ntmps34
  go_wp2_with fail
  refine (cut_no s _ hs HNE.out).mono ?_
  rintro e w1 ⟨rfl, rfl⟩
  go_wp2_with fail
  refine (plain_no s _ hs HP.out).mono ?_
  rintro e w1 ⟨rfl, rfl⟩
  go_wp2
  exact bodyPost_ret (v := .tuple #[.agg #[.bool false, .slice none 0 0], .int .i64 3]) (by simp [results, Tryd.results34, go_sem]) rfl ⟨(Kept.refl w).alloc _, rfl⟩

set_option maxRecDepth 100000 in
set_option maxHeartbeats 2000000 in
theorem parse_bad2 (s : ByteArray) (w : World) (hs : s.size ≤ 1024) (h0 : 0 < s.size) (hc45 : s[0].toNat = 45) (hp : ¬ NZ (s.extract 1 s.size).data.toList) :
    Calls Tryd.prog 34 #[.string s] w fun e w' => Kept w w' ∧ e = .returned (.tuple #[.agg #[.bool false, .slice none 0 0], .int .i64 3]) := by
  have hts : (s.extract 1 s.size).size ≤ 1024 := by
    have := size_of (s := s.extract 1 s.size) (ext_rest s)
    rw [List.length_drop, list_len] at this
    omega
  obtain ⟨t, ht⟩ : ∃ t, t = s.extract 1 s.size := ⟨_, rfl⟩
  rw [← ht] at hp hts
  have HT : Hid (t = s.extract 1 s.size) := ht
  have H45 : Hid (s[0].toNat = 45) := hc45
  clear ht hc45
  by_cases hz : t.data.toList = [48]
  · have hzb : (t.toList == [48]) = true := by rw [beq_zero rfl]; exact decide_eq_true hz
    have HP : Hid (Plain t.data.toList) := .inl hz
    clear hp hz
    go_enter Tryd.func34, Tryd.ntmps34
    go_wp2_with fail
    refine (cut_yes s _ hs h0 H45.out).mono ?_
    rintro e w1 ⟨rfl, rfl⟩
    rw [← HT.out]
    go_wp2_with fail
    refine (plain_yes t _ hts HP.out).mono ?_
    rintro e w1 ⟨rfl, rfl⟩
    go_wp2
    exact bodyPost_ret (v := .tuple #[.agg #[.bool false, .slice none 0 0], .int .i64 3]) (by simp [results, Tryd.results34, go_sem]) rfl ⟨(Kept.refl w).alloc _, rfl⟩
  · have HP : Hid (¬ Plain t.data.toList) := fun h => by
      rcases h with h | h
      · exact hz h
      · exact hp h
    clear hp hz
    go_enter Tryd.func34, Tryd.ntmps34
    go_wp2_with fail
    refine (cut_yes s _ hs h0 H45.out).mono ?_
    rintro e w1 ⟨rfl, rfl⟩
    rw [← HT.out]
    go_wp2_with fail
    refine (plain_no t _ hts HP.out).mono ?_
    rintro e w1 ⟨rfl, rfl⟩
    go_wp2
    exact bodyPost_ret (v := .tuple #[.agg #[.bool false, .slice none 0 0], .int .i64 3]) (by simp [results, Tryd.results34, go_sem]) rfl ⟨(Kept.refl w).alloc _, rfl⟩

end Go.Proofs.YtiadnlpbbibkgaaDoor

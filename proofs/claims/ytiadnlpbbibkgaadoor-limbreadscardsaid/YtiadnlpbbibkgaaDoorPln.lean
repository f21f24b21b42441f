/- plain; CutPrefix of a minus sign. -/
import Derived.Test.YtiadnlpbbibkgaaDoorDec
namespace Go.Proofs.YtiadnlpbbibkgaaDoor
open Go.RowKit

theorem get_mem (s : ByteArray) (k : Nat) (hk : k < s.size) : s[k] ∈ s.data.toList := Array.mem_toList_iff.2 (Array.getElem_mem hk)

theorem dig_get {s : ByteArray} (h : Dig s.data.toList) (k : Nat) (hk : k < s.size) : 48 ≤ (s[k].toNat : Int) ∧ (s[k].toNat : Int) ≤ 57 := by
  have := h _ (get_mem s k hk); omega

theorem dig_of {s : ByteArray} (h : ∀ k (hk : k < s.size), 48 ≤ s[k].toNat ∧ s[k].toNat ≤ 57) : Dig s.data.toList := by
  intro c hc
  obtain ⟨k, hk, rfl⟩ := List.getElem_of_mem hc
  exact h k (by simpa using hk)

theorem head_get (s : ByteArray) (h : 0 < s.size) : s.data.toList.head? = some s[0] := by
  have hk : 0 < s.data.toList.length := by simpa using h
  rw [List.head?_eq_getElem?, List.getElem?_eq_getElem hk]; rfl

theorem list_len (s : ByteArray) : s.data.toList.length = s.size := by rw [Array.length_toList]; rfl

/-- A plain text, as the code asks it. -/
theorem plain_iff (s : ByteArray) : Plain s.data.toList ↔ (0 < s.size ∧ Dig s.data.toList ∧ ∀ h : 0 < s.size, s[0].toNat = 48 → s.size = 1) := by
  constructor
  · rintro (h | h)
    · have hl := list_len s
      rw [h] at hl
      refine ⟨by simp at hl; omega, ?_, fun _ _ => by simp at hl; omega⟩
      rw [h]; intro c hc; simp at hc; subst hc; decide
    · refine ⟨by rw [← list_len]; exact List.length_pos_iff.2 h.ne, h.dig, fun h0 e => absurd e (h.head _ (head_get s h0))⟩
  · rintro ⟨h0, h1, h2⟩
    by_cases e : s[0].toNat = 48
    · left
      have hl := list_len s
      rw [h2 h0 e] at hl
      obtain ⟨c, hc⟩ := List.length_eq_one_iff.1 hl
      have hh := head_get s h0
      rw [hc] at hh ⊢
      simp at hh
      rw [hh]
      congr 1
      exact UInt8.toNat_inj.1 (by rw [e]; rfl)
    · right
      exact ⟨List.length_pos_iff.1 (by rw [list_len]; exact h0), h1, fun c hc => by rw [head_get s h0] at hc; cases hc; exact e⟩

theorem not_empty {s : ByteArray} (h : 0 < s.size) : s.toList.isEmpty = false := by
  rw [Go.ByteArray.toList_eq]
  have := list_len s
  cases hd : s.data.toList with
  | nil => rw [hd] at this; simp at this; omega
  | cons x t => rfl

theorem is_empty {s : ByteArray} (h : s.size = 0) : s.toList.isEmpty = true := by
  rw [Go.ByteArray.toList_eq]
  have := list_len s
  cases hd : s.data.toList with
  | nil => rfl
  | cons x t => rw [hd] at this; simp at this; omega

set_option maxHeartbeats 1000000 in
theorem plain_yes (s : ByteArray) (w : World) (hs : s.size ≤ 1024) (h : Plain s.data.toList) : Calls Tryd.prog 62 #[.string s] w fun e w' => w' = w ∧ e = .returned (.bool true) := by
  obtain ⟨h0, h1, h2⟩ := (plain_iff s).1 h
  have HD : Hid (Dig s.data.toList) := h1
  have hne := not_empty h0
  have h2 := h2 h0
  clear h h1
  by_cases hz : s[0].toNat = 48
  · have h3 := h2 hz
    have hzb : ((s[0].toNat : Int) == 48) = true := by simp; omega
    have h4 : s.size ≤ 1 := by omega
    clear h2 h3 hz
    go_enter Tryd.func62, Tryd.ntmps62
    go_wp2
    go_loop [18] (fun vi => ∃ k : Nat, k ≤ s.size ∧ vi = .int .i64 (k : Int)) (fun vi => s.size - (intOf vi).toNat)
    case atStart => exact ⟨0, Nat.zero_le _, rfl⟩
    case round =>
      obtain ⟨k, hk, rfl⟩ := hrel
      by_cases hlt : k < s.size
      · have hd := dig_get HD.out k hlt
        obtain ⟨hd1, hd2⟩ := hd
        go_wp2
        go_round
        case rel => exact ⟨k + 1, by omega, by go_num⟩
        case measure => simp [intOf]; omega
      · go_wp2
        go_ret
        exact ⟨rfl, rfl⟩
  · have hzb : ((s[0].toNat : Int) == 48) = false := by simp; omega
    clear h2 hz
    go_enter Tryd.func62, Tryd.ntmps62
    go_wp2
    go_loop [18] (fun vi => ∃ k : Nat, k ≤ s.size ∧ vi = .int .i64 (k : Int)) (fun vi => s.size - (intOf vi).toNat)
    case atStart => exact ⟨0, Nat.zero_le _, rfl⟩
    case round =>
      obtain ⟨k, hk, rfl⟩ := hrel
      by_cases hlt : k < s.size
      · have hd := dig_get HD.out k hlt
        obtain ⟨hd1, hd2⟩ := hd
        go_wp2
        go_round
        case rel => exact ⟨k + 1, by omega, by go_num⟩
        case measure => simp [intOf]; omega
      · go_wp2
        go_ret
        exact ⟨rfl, rfl⟩

set_option maxHeartbeats 1000000 in
theorem plain_no (s : ByteArray) (w : World) (hs : s.size ≤ 1024) (h : ¬ Plain s.data.toList) : Calls Tryd.prog 62 #[.string s] w fun e w' => w' = w ∧ e = .returned (.bool false) := by
  rw [plain_iff] at h
  by_cases h0 : s.size = 0
  · have hne := is_empty h0
    clear h
    go_enter Tryd.func62, Tryd.ntmps62
    go_wp2
    go_ret
    exact ⟨rfl, rfl⟩
  · have h0' : 0 < s.size := by omega
    have hne := not_empty h0'
    by_cases hz : s[0].toNat = 48 ∧ 1 < s.size
    · have hzb : ((s[0].toNat : Int) == 48) = true := by simp; omega
      have h4 : 1 < s.size := hz.2
      clear h hz
      go_enter Tryd.func62, Tryd.ntmps62
      go_wp2
      go_ret
      exact ⟨rfl, rfl⟩
    · have HD : Hid (¬ Dig s.data.toList) := fun hd => h ⟨h0', hd, fun _ e => by omega⟩
      have HD2 : Hid (∀ n, n = s.size → ¬ ∀ k (hk : k < s.size), k < n → 48 ≤ s[k].toNat ∧ s[k].toNat ≤ 57) := fun n hn hh => HD.out (dig_of (fun k hk => hh k hk (by omega)))
      clear h
      by_cases hz2 : s[0].toNat = 48
      · have hzb : ((s[0].toNat : Int) == 48) = true := by simp; omega
        have h4 : s.size ≤ 1 := by omega
        clear hz hz2
        go_enter Tryd.func62, Tryd.ntmps62
        go_wp2
        go_loop [18] (fun vi => ∃ k : Nat, k ≤ s.size ∧ vi = .int .i64 (k : Int) ∧ Hid (∀ j (hj : j < s.size), j < k → 48 ≤ s[j].toNat ∧ s[j].toNat ≤ 57)) (fun vi => s.size - (intOf vi).toNat)
        case atStart => exact ⟨0, Nat.zero_le _, rfl, fun _ _ h => by omega⟩
        case round =>
          obtain ⟨k, hk, rfl, hpre⟩ := hrel
          by_cases hlt : k < s.size
          · by_cases hd1 : 48 ≤ (s[k].toNat : Int)
            · by_cases hd2 : (s[k].toNat : Int) ≤ 57
              · go_wp2
                go_round
                case rel => exact ⟨k + 1, by omega, by go_num, fun j hj hjk => by
                  by_cases e : j = k
                  · subst e; omega
                  · exact hpre.out j hj (by omega)⟩
                case measure => simp [intOf]; omega
              · go_wp2
                go_ret
                exact ⟨rfl, rfl⟩
            · go_wp2
              go_ret
              exact ⟨rfl, rfl⟩
          · exact absurd hpre.out (HD2.out k (by omega))
      · have hzb : ((s[0].toNat : Int) == 48) = false := by simp; omega
        clear hz hz2
        go_enter Tryd.func62, Tryd.ntmps62
        go_wp2
        go_loop [18] (fun vi => ∃ k : Nat, k ≤ s.size ∧ vi = .int .i64 (k : Int) ∧ Hid (∀ j (hj : j < s.size), j < k → 48 ≤ s[j].toNat ∧ s[j].toNat ≤ 57)) (fun vi => s.size - (intOf vi).toNat)
        case atStart => exact ⟨0, Nat.zero_le _, rfl, fun _ _ h => by omega⟩
        case round =>
          obtain ⟨k, hk, rfl, hpre⟩ := hrel
          by_cases hlt : k < s.size
          · by_cases hd1 : 48 ≤ (s[k].toNat : Int)
            · by_cases hd2 : (s[k].toNat : Int) ≤ 57
              · go_wp2
                go_round
                case rel => exact ⟨k + 1, by omega, by go_num, fun j hj hjk => by
                  by_cases e : j = k
                  · subst e; omega
                  · exact hpre.out j hj (by omega)⟩
                case measure => simp [intOf]; omega
              · go_wp2
                go_ret
                exact ⟨rfl, rfl⟩
            · go_wp2
              go_ret
              exact ⟨rfl, rfl⟩
          · exact absurd hpre.out (HD2.out k (by omega))

end Go.Proofs.YtiadnlpbbibkgaaDoor

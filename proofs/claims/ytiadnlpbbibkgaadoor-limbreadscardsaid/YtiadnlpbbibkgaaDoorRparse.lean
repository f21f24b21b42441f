/- Number, told whole, and Parse of package shuntref01. -/
import Derived.Test.YtiadnlpbbibkgaaDoorRno
namespace Go.Proofs.YtiadnlpbbibkgaaDoor
open Go.RowKit
namespace D

theorem nz_iff (s : ByteArray) : NZ (s.data.toList.drop 1) ↔ ∃ h : 1 < s.size, s[1].toNat ≠ 48 ∧ ∀ k (hk : k < s.size), 1 ≤ k → 48 ≤ s[k].toNat ∧ s[k].toNat ≤ 57 := by
  have hlen : (s.data.toList.drop 1).length = s.size - 1 := by rw [List.length_drop, list_len]
  have hget : ∀ k (hk : k < s.size), 1 ≤ k → s[k] ∈ s.data.toList.drop 1 := fun k hk h1 => by
    rw [List.mem_iff_getElem]
    refine ⟨k - 1, by rw [hlen]; omega, ?_⟩
    rw [List.getElem_drop]
    simp only [show 1 + (k - 1) = k by omega]
    rfl
  constructor
  · intro h
    have h1 : 1 < s.size := by
      have := List.length_pos_iff.2 h.ne
      omega
    refine ⟨h1, ?_, fun k hk h2 => h.dig _ (hget k hk h2)⟩
    apply h.head
    rw [List.head?_eq_getElem?, List.getElem?_eq_getElem (by rw [hlen]; omega), List.getElem_drop]
    rfl
  · rintro ⟨h1, h2, h3⟩
    refine ⟨fun e => by rw [e] at hlen; simp at hlen; omega, fun c hc => ?_, fun c hc => ?_⟩
    · obtain ⟨i, hi, rfl⟩ := List.mem_iff_getElem.1 hc
      rw [List.getElem_drop]
      exact h3 (1 + i) (by rw [hlen] at hi; omega) (by omega)
    · rw [List.head?_eq_getElem?, List.getElem?_eq_getElem (by rw [hlen]; omega), List.getElem_drop] at hc
      obtain rfl := Option.some.inj hc
      exact h2

theorem dig_iff (s : ByteArray) : Dig s.data.toList ↔ ∀ k (hk : k < s.size), 0 ≤ k → 48 ≤ s[k].toNat ∧ s[k].toNat ≤ 57 :=
  ⟨fun h k hk _ => h _ (get_mem s k hk), fun h => dig_of (fun k hk => h k hk (Nat.zero_le _))⟩

set_option maxRecDepth 100000 in
set_option maxHeartbeats 1000000 in
theorem number_empty (s : ByteArray) (w : World) (hs : s.size = 0) : Calls Tryd.prog 64 #[.string s] w fun e w' => Kept w w' ∧ e = .returned (.tuple #[.agg #[.bool false, .slice none 0 0], .bool false]) := by
  have hsz : ((s.size : Int) == 0) = true := by simp [hs]
  have hsp : ¬ (0 < (s.size : Int)) := by omega
  clear hs
  go_enter Tryd.func64, Tryd.ntmps64
  go_wp2
  exact bodyPost_ret (v := .tuple #[.agg #[.bool false, .slice none 0 0], .bool false]) (by simp [results, Tryd.results64, go_sem]) rfl ⟨(Kept.refl w).alloc _, rfl⟩

set_option maxRecDepth 100000 in
set_option maxHeartbeats 1000000 in
theorem number_lone (s : ByteArray) (w : World) (hs0 : 0 < s.size) (hF : s.size ≤ 1) (hA : (s[0].toNat : Int) == 45) : Calls Tryd.prog 64 #[.string s] w fun e w' => Kept w w' ∧ e = .returned (.tuple #[.agg #[.bool false, .slice none 0 0], .bool false]) := by
  have hsz : ((s.size : Int) == 1) = true := beq_iff_eq.2 (by omega)
  go_enter Tryd.func64, Tryd.ntmps64
  go_wp2
  exact bodyPost_ret (v := .tuple #[.agg #[.bool false, .slice none 0 0], .bool false]) (by simp [results, Tryd.results64, go_sem]) rfl ⟨(Kept.refl w).alloc _, rfl⟩

set_option maxRecDepth 100000 in
set_option maxHeartbeats 1000000 in
theorem number_zeros (s : ByteArray) (w : World) (hs : s.size ≤ 1024) (hF : 1 < s.size) (hA : ((s[0].toNat : Int) == 45) = false) (hB : ((s[0].toNat : Int) == 48) = true) : Calls Tryd.prog 64 #[.string s] w fun e w' => Kept w w' ∧ e = .returned (.tuple #[.agg #[.bool false, .slice none 0 0], .bool false]) := by
  have hsz : ((s.size : Int) == 0) = false := beq_eq_false_iff_ne.2 (by omega)
  have hs0 : 0 < s.size := by omega
  go_enter Tryd.func64, Tryd.ntmps64
  go_wp2
  exact bodyPost_ret (v := .tuple #[.agg #[.bool false, .slice none 0 0], .bool false]) (by simp [results, Tryd.results64, go_sem]) rfl ⟨(Kept.refl w).alloc _, rfl⟩

set_option maxRecDepth 100000 in
set_option maxHeartbeats 1000000 in
theorem number_less (s : ByteArray) (w : World) (hs : s.size ≤ 1024) (hF : 1 < s.size) (hA : ((s[0].toNat : Int) == 45) = true) (hB : ((s[1].toNat : Int) == 48) = true) : Calls Tryd.prog 64 #[.string s] w fun e w' => Kept w w' ∧ e = .returned (.tuple #[.agg #[.bool false, .slice none 0 0], .bool false]) := by
  have hsz : ((s.size : Int) == 1) = false := beq_eq_false_iff_ne.2 (by omega)
  have hs0 : 0 < s.size := by omega
  go_enter Tryd.func64, Tryd.ntmps64
  go_wp2
  exact bodyPost_ret (v := .tuple #[.agg #[.bool false, .slice none 0 0], .bool false]) (by simp [results, Tryd.results64, go_sem]) rfl ⟨(Kept.refl w).alloc _, rfl⟩

theorem beqI {x c : Nat} : (((x : Int) == (c : Int)) = true) ↔ x = c := by rw [beq_iff_eq]; omega
theorem bneI {x c : Nat} : (((x : Int) == (c : Int)) = false) ↔ ¬ x = c := by rw [beq_eq_false_iff_ne]; omega

theorem number_pos (s : ByteArray) (w : World) (hs : s.size ≤ 1024) (hne : ∀ h : 0 < s.size, ¬ s[0].toNat = 45) :
    Calls Tryd.prog 64 #[.string s] w fun e w' => Kept w w' ∧ NumR w' e (Plain s.data.toList) (dv s.data.toList : Int) := by
  by_cases h0 : 0 < s.size
  · have hA := bneI.2 (hne h0)
    by_cases hB : s[0].toNat = 48
    · by_cases h1 : 1 < s.size
      · refine (number_zeros s w hs h1 hA (beqI.2 hB)).mono ?_
        rintro e w' ⟨hk, rfl⟩
        exact ⟨hk, .inr ⟨fun h => by have := ((plain_iff s).1 h).2.2 h0 hB; omega, rfl⟩⟩
      · exact number_nought s w hs h0 hA (beqI.2 hB) (by omega) (Plain s.data.toList) (by
          rw [← dig_iff, plain_iff]
          exact ⟨fun h => h.2.1, fun h => ⟨h0, h, fun _ _ => by omega⟩⟩)
    · exact number_nz s w hs h0 hA (bneI.2 hB) (Plain s.data.toList) (by
        rw [← dig_iff, plain_iff]
        exact ⟨fun h => h.2.1, fun h => ⟨h0, h, fun _ e => absurd e hB⟩⟩)
  · refine (number_empty s w (by omega)).mono ?_
    rintro e w' ⟨hk, rfl⟩
    exact ⟨hk, .inr ⟨fun h => h0 ((plain_iff s).1 h).1, rfl⟩⟩

theorem number_minus (s : ByteArray) (w : World) (hs : s.size ≤ 1024) (h0 : 0 < s.size) (h45 : s[0].toNat = 45) :
    Calls Tryd.prog 64 #[.string s] w fun e w' => Kept w w' ∧ NumR w' e (NZ (s.data.toList.drop 1)) (-(dv (s.data.toList.drop 1) : Int)) := by
  by_cases h1 : 1 < s.size
  · by_cases hB : s[1].toNat = 48
    · refine (number_less s w hs h1 (beqI.2 h45) (beqI.2 hB)).mono ?_
      rintro e w' ⟨hk, rfl⟩
      exact ⟨hk, .inr ⟨fun h => by obtain ⟨_, h2, _⟩ := (nz_iff s).1 h; exact h2 hB, rfl⟩⟩
    · exact number_neg s w hs h1 (beqI.2 h45) (bneI.2 hB) _ (by
        rw [nz_iff]
        exact ⟨fun ⟨_, _, h⟩ => h, fun h => ⟨h1, hB, h⟩⟩)
  · refine (number_lone s w h0 (by omega) (beqI.2 h45)).mono ?_
    rintro e w' ⟨hk, rfl⟩
    exact ⟨hk, .inr ⟨fun h => h1 ((nz_iff s).1 h).1, rfl⟩⟩

theorem FinX.box {w : World} {s : Bool} {v : Value} {c z : Int} {b : Nat} {q : Bool} {ao : Option Addr} {n cap : Nat} (h : FinX w s v c z) (h0 : w.cell? ⟨b, 0, none⟩ = some (.bool q)) (h1 : w.cell? ⟨b, 1, none⟩ = some (.slice ao n cap)) (x y : Value) : FinX ((w.setCell ⟨b, 0, none⟩ x).setCell ⟨b, 1, none⟩ y) s v c z := by
  rcases h with ⟨hc, l, h2, h3⟩ | h
  · exact .inl ⟨hc, l, sl_box h2 h0 h1 x y, h3⟩
  · exact .inr h

/-- What a reader of texts answers: an error, or the number z told. -/
def Tells (w : World) (e : Ending) : Except Int Int → Prop
  | .error c => e = .returned (.tuple #[.agg #[.bool false, .slice none 0 0], .int .i64 c])
  | .ok z => ∃ s ao n cap c, e = .returned (.tuple #[.agg #[.bool s, .slice ao n cap], .int .i64 c]) ∧ FinX w s (.slice ao n cap) c z

set_option maxRecDepth 100000 in
set_option maxHeartbeats 1000000 in
theorem rparse_long (s : ByteArray) (w : World) (hs : 1024 < s.size) (hm : s.size ≤ maxLen) : Calls Tryd.prog 35 #[.string s] w fun e w' => Kept w w' ∧ Tells w' e (.error 2) := by
  have hl : (s.size : Int) ≤ 9223372036854775807 := by unfold maxLen at hm; omega
  clear hm
  go_enter Tryd.func35, Tryd.ntmps35
  go_wp2
  exact bodyPost_ret (v := .tuple #[.agg #[.bool false, .slice none 0 0], .int .i64 2]) (by simp [results, Tryd.results35, go_sem]) rfl ⟨(Kept.refl w).alloc _, rfl⟩

set_option maxRecDepth 100000 in
set_option maxHeartbeats 2000000 in
theorem rparse_of (s : ByteArray) (w : World) (hs : s.size ≤ 1024) (G : Prop) (z : Int) (o : Except Int Int) (hG : G → o = .ok z) (hB : ¬ G → o = .error 3) (H : ∀ w, Calls Tryd.prog 64 #[.string s] w fun e w' => Kept w w' ∧ NumR w' e G z) :
    Calls Tryd.prog 35 #[.string s] w fun e w' => Kept w w' ∧ Tells w' e o := by
  have HH : Hid (∀ w, Calls Tryd.prog 64 #[.string s] w fun e w' => Kept w w' ∧ NumR w' e G z) := H
  have HG : Hid ((G → o = .ok z) ∧ (¬ G → o = .error 3)) := ⟨hG, hB⟩
  clear H hG hB
  go_enter Tryd.func35, Tryd.ntmps35
  go_wp2_with fail
  refine (HH.out _).mono ?_
  rintro e w1 ⟨hk, ⟨g, sg, ao, k, cap, rfl, hN, hkl⟩ | ⟨g, rfl⟩⟩
  · have HK : Hid (Kept (w.alloc (Obj.cells #[.bool false, .slice none 0 0] 24)) w1) := hk
    obtain ⟨hR0, hR1⟩ := box_kept hk
    have hf := hk.frozens
    have HN : Hid (NIs w1 sg (.slice ao k cap) z ∧ o = .ok z) := ⟨hN, HG.out.1 g⟩
    have gR0 := fun x => cell_kept ((Kept.refl w1).alloc x) hR0
    have gR1 := fun x => cell_kept ((Kept.refl w1).alloc x) hR1
    clear hk hN g hf
    go_wp2_with fail
    refine (told_any sg ao k cap z _ (HN.out.1.kept ((Kept.refl w1).alloc _)) (by omega)).mono ?_
    rintro e w2 ⟨hk2, s2, a2, n2, c2, c, rfl, hF⟩
    have HF : Hid (FinX w2 s2 (.slice a2 n2 c2) c z) := hF
    have hk3 : Kept (w.alloc (Obj.cells #[.bool false, .slice none 0 0] 24)) w2 := (HK.out.alloc _).trans hk2
    obtain ⟨hS0, hS1⟩ := box_kept hk3
    have hf2 := hk3.frozens
    have HK3 : Hid (Kept w w2) := ((Kept.refl w).alloc _).trans hk3
    clear hk2 hF hk3 gR0 gR1 hR0 hR1
    go_wp2
    refine bodyPost_ret (v := .tuple #[.agg #[.bool s2, .slice a2 n2 c2], .int .i64 c]) (by simp [results, Tryd.results35, go_sem, hS0, hS1]) rfl ⟨(HK3.out.setCell (by simp) _).setCell (by simp) _, ?_⟩
    rw [HN.out.2]
    exact ⟨s2, a2, n2, c2, c, rfl, HF.out.box hS0 hS1 _ _⟩
  · have hR := box_kept hk
    obtain ⟨hR0, hR1⟩ := hR
    have hf := fun x => (hk.alloc x).frozens
    have HK : Hid (Kept w w1 ∧ o = .error 3) := ⟨((Kept.refl w).alloc _).trans hk, HG.out.2 g⟩
    have gR0 := fun x => cell_kept ((Kept.refl w1).alloc x) hR0
    have gR1 := fun x => cell_kept ((Kept.refl w1).alloc x) hR1
    clear hk g
    go_wp2
    refine bodyPost_ret (v := .tuple #[.agg #[.bool false, .slice none 0 0], .int .i64 3]) (by simp [results, Tryd.results35, go_sem, gR0, gR1]) rfl ⟨((HK.out.1.alloc _).setCell (by simp) _).setCell (by simp) _, ?_⟩
    rw [HK.out.2]
    rfl

end D
end Go.Proofs.YtiadnlpbbibkgaaDoor

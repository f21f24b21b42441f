/- strings.Cut at one byte, strings.Split at a byte 10. -/
import Derived.Test.YtbmmiepjkamaeaaDoorShelf
import Derived.Test.YtbmmiepjkamaeaaDoorGab
namespace Go.Proofs.YtbmmiepjkamaeaaDoor
open Go.RowKit
namespace X
theorem ix_cases (c : UInt8) (L : List UInt8) : (Lib.indexByte L c = -1 ∧ ∀ x ∈ L, x ≠ c) ∨ ∃ a b, L = a ++ c :: b ∧ (∀ x ∈ a, x ≠ c) ∧ Lib.indexByte L c = a.length := by
 induction L with
 | nil => exact .inl ⟨rfl, by simp⟩
 | cons x L ih =>
  by_cases h : x = c
  ·
   subst h
   exact .inr ⟨[], L, rfl, by simp, by simp [Lib.indexByte]⟩
  ·
   rcases ih with ⟨h1, h2⟩ | ⟨a, b, rfl, h2, h3⟩
   ·
    refine .inl ⟨by simp [Lib.indexByte, h, h1], fun y hy => ?_⟩
    rcases List.mem_cons.1 hy with rfl | hy
    ·
     exact h
    ·
     exact h2 y hy
   ·
    refine .inr ⟨x :: a, b, rfl, fun y hy => ?_, ?_⟩
    ·
     rcases List.mem_cons.1 hy with rfl | hy
     ·
      exact h
     ·
      exact h2 y hy
    ·
     rw [Lib.indexByte, h3]
     have hn : ¬ ((a.length : Int) == -1) = true := by simp
     rw [if_neg (by simpa using h), if_neg hn]
     simp
theorem said_none {L : List UInt8} (h : ∀ x ∈ L, x ≠ 59) : said L = L := by
 unfold said
 induction L with
 | nil => rfl
 | cons x L ih =>
  have hx : isR x = false := by
   unfold isR
   exact decide_eq_false (fun e => h x (by simp) (UInt8.toNat_inj.1 (by simpa using e)))
  rw [List.takeWhile_cons, hx]
  simp only [Bool.not_false, if_true]
  rw [ih (fun y hy => h y (by simp [hy]))]
theorem said_cut {a b : List UInt8} (h : ∀ x ∈ a, x ≠ 59) : said (a ++ 59 :: b) = a := by
 unfold said
 induction a with
 | nil => rfl
 | cons x a ih =>
  have hx : isR x = false := by
   unfold isR
   exact decide_eq_false (fun e => h x (by simp) (UInt8.toNat_inj.1 (by simpa using e)))
  rw [List.cons_append, List.takeWhile_cons, hx]
  simp only [Bool.not_false, if_true]
  rw [ih (fun y hy => h y (by simp [hy]))]
theorem cuts_any (s : ByteArray) (w : World) (hs : s.size ≤ 9223372036854775806) : Calls Tryd.prog 31 #[.string s, .string ⟨#[59]⟩] w fun e w' => Kept w w' ∧ ∃ b f, e = .returned (.tuple #[.string (bs (said s.data.toList)), .string b, .bool f]) := by
 rcases ix_cases 59 s.data.toList with ⟨h1, h2⟩ | ⟨a, b, h1, h2, h3⟩
 ·
  have HS := hid' (said_none h2)
  have hix := Tryd.stringslite_Index_one s 59
  rw [h1] at hix
  clear h1 h2
  go_enter Tryd.func31, Tryd.ntmps31
  go_wp2_with fail
  refine (hix _).mono ?_
  rintro e w1 ⟨rfl, rfl⟩
  go_wp2_with fail
  go_ret3
  exact ⟨Kept.refl _, ⟨#[]⟩, false, by rw [HS.out, bs_back]; rfl⟩
 ·
  have hl : a.length < s.size := by rw [← len_list, h1]; simp
  have HS := hid' (show s.extract 0 a.length = bs (said s.data.toList) by
   rw [h1, said_cut h2]
   apply ByteArray.ext
   apply Array.ext'
   rw [ByteArray.data_extract, bs_list]
   simp [h1])
  have hix := Tryd.stringslite_Index_one s 59
  rw [h3] at hix
  clear h1 h2 h3
  have c1 : (0 : Int) ≤ (a.length : Int) := by omega
  have c2 : (a.length : Int) ≤ (s.size : Int) := by omega
  have c3 : (0 : Int) ≤ (a.length : Int) + 1 := by omega
  have c4 : (a.length : Int) + 1 ≤ (s.size : Int) := by omega
  generalize a.length = n at *
  go_enter Tryd.func31, Tryd.ntmps31
  go_wp2_with fail
  refine (hix _).mono ?_
  rintro e w1 ⟨rfl, rfl⟩
  go_wp2_with fail
  go_quiet (fail)
  go_wp2_with fail
  go_ret3
  exact ⟨(Kept.refl _).drewN _, _, _, by rw [← HS.out]; rfl⟩
theorem cut_any (s : ByteArray) (w : World) (hs : s.size ≤ 9223372036854775806) : Calls Tryd.prog 26 #[.string s, .string ⟨#[59]⟩] w fun e w' => Kept w w' ∧ ∃ b f, e = .returned (.tuple #[.string (bs (said s.data.toList)), .string b, .bool f]) := by
 have hc := cuts_any s w hs
 go_enter Tryd.func26, Tryd.ntmps26
 go_wp2_with fail
 refine hc.mono ?_
 rintro e w1 ⟨hk, b, f, rfl⟩
 go_wp2_with fail
 go_ret3
 exact ⟨hk, _, _, rfl⟩
theorem splitK_cut : ∀ (k : Nat) (L : List UInt8), L.count 10 = k → Lib.splitK [10] 0 k L = cut10 L
 | 0, L, h => by
  have hn : ∀ x ∈ L, isN x = false := fun x hx => by
   unfold isN
   exact decide_eq_false (fun e => (List.count_eq_zero.1 h) (by rwa [show x = 10 from UInt8.toNat_inj.1 (by simpa using e)] at hx))
  rw [cut10_plain hn]; rfl
 | k + 1, L, h => by
  rcases ix_cases 10 L with ⟨h1, h2⟩ | ⟨a, b, rfl, h2, h3⟩
  ·
   exact absurd (List.count_eq_zero.2 (fun hm => h2 10 hm rfl)) (by omega)
  ·
   have hn : ∀ x ∈ a, isN x = false := fun x hx => by
    unfold isN
    exact decide_eq_false (fun e => h2 x hx (UInt8.toNat_inj.1 (by simpa using e)))
   rw [cut10_join a b (by decide), cut10_plain hn, Lib.splitK, Lib.index_one, h3, if_neg (by simp)]
   have hc : a.count 10 = 0 := List.count_eq_zero.2 (fun hm => h2 10 hm rfl)
   rw [List.count_append, hc, List.count_cons_self] at h
   have e1 : ((a.length : Int)).toNat = a.length := by omega
   rw [e1]
   have e2 : (a ++ 10 :: b).drop (a.length + [(10 : UInt8)].length) = b := by simp
   have e3 : (a ++ 10 :: b).take (a.length + 0) = a := by simp
   rw [e2, e3, splitK_cut k b (by omega)]
   rfl
set_option maxHeartbeats 1000000 in
theorem split_any (s : ByteArray) (w : World) (hs : s.size < 4294967281) : Calls Tryd.prog 18 #[.string s, .string ⟨#[10]⟩] w fun e w' =>
  e = .returned (.slice (some ⟨w.heap.size, 0, none⟩) (cut10 s.data.toList).length (cut10 s.data.toList).length) ∧ w' = w.alloc (.cells ((cut10 s.data.toList).map (fun l => Value.string (bs l))).toArray 9) := by
 have hcnt : Lib.countB s ⟨#[10]⟩ = s.data.toList.count 10 := Lib.count_one 10 s.data.toList
 have hle := Lib.countB_le ⟨#[10]⟩ (by decide) s.size s (Nat.le_refl _)
 have hlen := Lib.splitB_all ⟨#[10]⟩ (by decide) 0 _ s rfl
 have hdat : (Lib.splitB ⟨#[10]⟩ 0 (Lib.countB s ⟨#[10]⟩) s).map (·.data.toList) = cut10 s.data.toList := by
  rw [Lib.splitB_data, hcnt]
  exact splitK_cut _ _ rfl
 have hmap : (Lib.splitB ⟨#[10]⟩ 0 (Lib.countB s ⟨#[10]⟩) s).map Value.string = (cut10 s.data.toList).map (fun l => Value.string (bs l)) := by
  rw [← hdat, List.map_map]
  exact List.map_congr_left (fun x _ => by simp [bs_back])
 have hl2 : (cut10 s.data.toList).length = Lib.countB s ⟨#[10]⟩ + 1 := by rw [← hdat, List.length_map, hlen]
 have c := Any.strings_genSplit_core Tryd.lays221 (by kernel_rfl) s ⟨#[10]⟩ 0 (-1) (Lib.countB s ⟨#[10]⟩ + 1) w hs (by decide) (Nat.zero_le _)
  (fun x c hx => (Tryd.strings_Index_one x 10 _).mono fun e w' ⟨he, hw⟩ => ⟨by rw [he]; exact congrArg (fun z => Ending.returned (Value.int .i64 z)) (Lib.index_one x.data.toList 10).symm, hw⟩)
  ((Tryd.strings_Count_one s 10 _).mono fun e w' ⟨he, hw⟩ => ⟨by rw [he, hcnt]; rfl, hw⟩) (by decide) (by decide) (by rw [if_pos (by decide)]; omega)
 rw [Nat.add_sub_cancel, hlen] at c
 have e2 : Lib.cellsOf (Lib.splitB ⟨#[10]⟩ 0 (Lib.countB s ⟨#[10]⟩) s) (Lib.countB s ⟨#[10]⟩ + 1) = ((Lib.splitB ⟨#[10]⟩ 0 (Lib.countB s ⟨#[10]⟩) s).map Value.string).toArray := by rw [← hlen]; exact Lib.cellsOf_full _
 rw [e2, hmap, ← hl2] at c
 clear hcnt hle hlen hdat hmap hl2 e2
 generalize (cut10 s.data.toList).length = n at c ⊢
 generalize ((cut10 s.data.toList).map (fun l => Value.string (bs l))).toArray = cs at c ⊢
 have c' : Calls Tryd.prog 24 #[.string s, .string ⟨#[10]⟩, .int .i64 0, .int .i64 (-1)] w fun e w' => e = .returned (.slice (some ⟨w.heap.size, 0, none⟩) n n) ∧ w' = w.alloc (.cells cs 9) := c
 clear c
 go_enter Tryd.func18, Tryd.ntmps18
 go_wp2_with fail
 refine c'.mono ?_
 rintro e w1 ⟨rfl, rfl⟩
 go_wp2_with fail
 go_ret
 exact ⟨rfl, rfl⟩
end X
end Go.Proofs.YtbmmiepjkamaeaaDoor

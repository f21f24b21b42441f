/- shuntref06.Lines. -/
import Derived.Test.YtbmmiepjkamaeaaDoorGaf
import Derived.Deep.DeepCutAuto
namespace Go.Proofs.YtbmmiepjkamaeaaDoor
open Go.RowKit
namespace X
theorem piece_mid (s : ByteArray) (f k : Nat) (hf : f ≤ k) (hk : k < s.size) (h10 : isN s[k] = true) (hn : ∀ c ∈ (s.data.toList.take k).drop f, isN c = false) : cut10 (s.data.toList.drop f) = (s.data.toList.take k).drop f :: cut10 (s.data.toList.drop (k + 1)) := by
 have e : s.data.toList.drop f = (s.data.toList.take k).drop f ++ s[k] :: s.data.toList.drop (k + 1) := by
  rw [← drop_at s k hk]
  conv => lhs; rw [← List.take_append_drop k s.data.toList]
  rw [List.drop_append_of_le_length (by rw [List.length_take, len_list]; omega)]
 rw [e, cut10_join _ _ h10, cut10_plain hn]; rfl
theorem piece_end (s : ByteArray) (f k : Nat) (hk : k = s.size) (hn : ∀ c ∈ (s.data.toList.take k).drop f, isN c = false) : cut10 (s.data.toList.drop f) = [(s.data.toList.take k).drop f] := by
 have e : s.data.toList.take k = s.data.toList := List.take_of_length_le (by rw [len_list]; omega)
 rw [e] at hn ⊢
 exact cut10_plain hn
structure LiI (w wr : World) (L : List UInt8) (v : Value) (n f k : Nat) (told : List Ln) (vs : List Value) : Prop where
 kp : Kept w wr
 own : OwnL w.heap.size wr v told vs
 ok : ∀ x ∈ told, OkS x.2
 cnt : told.length ≤ n
 nn : ∀ c ∈ (L.take k).drop f, isN c = false
 eq1 : f ≤ L.length → go [] 0 (cut10 L) = go told n (cut10 (L.drop f))
 eq2 : L.length < f → go [] 0 (cut10 L) = (told, 0, 0)
def restOf (s : ByteArray) (k : Nat) : List (List UInt8) := if k < s.size then cut10 (s.data.toList.drop (k + 1)) else []
theorem LiI.piece {w wr : World} {s : ByteArray} {v : Value} {n f k : Nat} {told : List Ln} {vs : List Value} (h : LiI w wr s.data.toList v n f k told vs) (hf : f ≤ k) (hk : k ≤ s.size) (h10 : ∀ hk : k < s.size, isN s[k] = true) :
  go [] 0 (cut10 s.data.toList) = go told n ((s.data.toList.take k).drop f :: restOf s k) := by
 rw [h.eq1 (by rw [len_list]; omega)]
 unfold restOf
 by_cases hlt : k < s.size
 ·
  rw [if_pos hlt, piece_mid s f k hf hlt (h10 hlt) h.nn]
 ·
  rw [if_neg hlt, piece_end s f k (by omega) h.nn]
theorem LiI.next {w w' : World} {s : ByteArray} {v : Value} {n k : Nat} {p : List UInt8} {told t : List Ln} {vs : List Value} (hk : k ≤ s.size) (he : go [] 0 (cut10 s.data.toList) = go told n (p :: restOf s k)) (ht : tk told (n + 1) p = .ok t)
  (kp : Kept w w') (own : OwnL w.heap.size w' v t vs) (ok : ∀ x ∈ told, OkS x.2) (cnt : told.length ≤ n) : LiI w w' s.data.toList v (n + 1) (k + 1) (k + 1) t vs := by
 rw [go, ht] at he
 refine ⟨kp, own, tk_ok ok ht, by have := tk_len ht; omega, fun c hc => by rw [part_none] at hc; simp at hc, fun h => ?_, fun h => ?_⟩
 ·
  rw [len_list] at h
  unfold restOf at he
  rw [if_pos (by omega)] at he
  exact he
 ·
  rw [len_list] at h
  unfold restOf at he
  rw [if_neg (by omega)] at he
  exact he
theorem all_part {s : ByteArray} {f j : Nat} (hf : f ≤ j) (hj : j < s.size) (h : ((s.data.toList.take j).drop f).all okB = true) (h2 : okB s[j] = true) : ((s.data.toList.take (j + 1)).drop f).all okB = true := by
 rw [part_succ s f j hf hj, List.all_append, h]
 simp [h2]
theorem not_part {s : ByteArray} {f j k : Nat} (hf : f ≤ j) (hj : j < k) (hk : k ≤ s.size) (h2 : okB (s[j]'(by omega)) = false) : ((s.data.toList.take k).drop f).all okB = false := by
 rw [List.all_eq_false]
 refine ⟨s[j]'(by omega), ?_, by rw [h2]; decide⟩
 apply List.mem_of_getElem? (i := j - f)
 rw [List.getElem?_drop, show f + (j - f) = j by omega, List.getElem?_take_of_lt hj, list_at s j (by omega)]
def B9 (v : Value) (s : ByteArray) (k : Nat) : Prop := ∃ b, v = .bool b ∧ (b = true → ∃ h : k < s.size, isN s[k] = false) ∧ (b = false → ∀ h : k < s.size, isN s[k] = true)
def B10 (v : Value) (s : ByteArray) (f k : Nat) : Prop := ∃ b, v = .bool b ∧ (b = true → k = s.size ∧ f = k) ∧ (b = false → ¬ (k = s.size ∧ f = k))
theorem len_out {B : Nat} {w : World} {v : Value} {x : List UInt8} {xs : List (List UInt8)} (h : OwnS B w v (x :: xs)) : ∃ g c, v = .slice (some ⟨g, 0, none⟩) (xs.length + 1) c ∧ xs.length + 1 ≤ c ∧ B ≤ g ∧ g < w.heap.size ∧ w.cell? ⟨g, 0, none⟩ = some (.string (bs x)) ∧ ∀ j, j < xs.length → w.cell? ⟨g, 1 + j, none⟩ = some (.string (bs (xs.getD j []))) := by
 obtain ⟨g, c, hv, hB, hlt, hc, hcell, _⟩ := h.read (by simp)
 refine ⟨g, c, by rw [hv]; rfl, by simpa using hc, hB, hlt, hcell 0 (by simp), fun j hj => ?_⟩
 have := hcell (j + 1) (by simpa using hj)
 rw [Nat.add_comm 1 j]
 simpa using this
set_option maxRecDepth 100000 in
set_option maxHeartbeats 16000000 in
theorem rlines_any (s : ByteArray) (w : World) (hs : s.size ≤ 9223372036854775807) : Calls Tryd.prog 10 #[.string s] w fun e w' => Kept w w' ∧ LnIs w.heap.size w' e (linesOf s.data.toList) := by
 by_cases hlong : 65536 < s.size
 ·
  have hz : (65536 : Int) < (s.size : Int) := by omega
  have HL := hid' (lines_long (T := s.data.toList) (by rw [len_list]; exact hlong))
  go_enter Tryd.func10, Tryd.ntmps10
  go_wp2_with fail
  go_ret3
  refine ⟨Kept.refl _, ?_⟩
  rw [HL.out]
  exact ⟨_, [], rfl, OwnL.nil _ _⟩
 ·
  have hz : ¬ (65536 : Int) < (s.size : Int) := by omega
  have HR0 := hid' (lines_go (T := s.data.toList) (by rw [len_list]; exact hlong))
  generalize linesOf s.data.toList = R at HR0 ⊢
  obtain ⟨i0, hi0, hz0, hz1, hz2⟩ := info_parts info_str
  go_enter Tryd.func10, Tryd.ntmps10
  go_wp2_with fail
  go_loopw [5, 6, 7, 8] (fun v5 vn vf vi wr => ∃ (k n f : Nat) (told : List Ln) (vs : List Value), k ≤ s.size + 1 ∧ f ≤ k ∧ n ≤ f ∧ (k = s.size + 1 → f = s.size + 1) ∧ vn = .int .i64 (n : Int) ∧ vf = .int .i64 (f : Int) ∧ vi = .int .i64 (k : Int) ∧ Hid (LiI w wr s.data.toList v5 n f k told vs)) (fun _ _ _ vi _ => s.size + 1 - (intOf vi).toNat)
  case atStart => exact ⟨0, 0, 0, [], [], by omega, Nat.le_refl _, Nat.le_refl _, fun h => by omega, rfl, rfl, rfl, Kept.refl _, OwnL.nil _ _, fun x hx => by simp at hx, Nat.le_refl _, fun c hc => by simp at hc, fun _ => by rw [List.drop_zero], fun h => by omega⟩
  case round =>
   obtain ⟨k, n, f, told, vs, hk, hfk, hnf, hfe, rfl, rfl, rfl, H⟩ := hrel
   by_cases hle : k ≤ s.size
   ·
    have hle' : (k : Int) ≤ (s.size : Int) := by omega
    clear hfe
    go_upto_region 9 with fail
    go_cut [29] (fun s29 wc => wc = wr ∧ Hid (B9 s29 s k))
    case first =>
     by_cases hlt : k < s.size
     ·
      have hlt' : (k : Int) < (s.size : Int) := by omega
      by_cases h10 : (s[k].toNat : Int) = 10
      ·
       have h10' : ((s[k].toNat : Int) == 10) = true := by simpa using h10
       have h10n : ((s[k].toNat : Int) != 10) = false := by simpa using h10
       have HB := hid' (show isN s[k] = true by unfold isN; exact decide_eq_true (by omega))
       go_wp2_with fail
       go_meet
       case rel => exact ⟨rfl, false, rfl, (fun h => by cases h), fun _ _ => HB.out⟩
      ·
       have h10' : ((s[k].toNat : Int) == 10) = false := by simpa using h10
       have h10n : ((s[k].toNat : Int) != 10) = true := by simpa using h10
       have HB := hid' (show isN s[k] = false by unfold isN; exact decide_eq_false (by omega))
       go_wp2_with fail
       go_meet
       case rel => exact ⟨rfl, true, rfl, fun _ => ⟨hlt, HB.out⟩, (fun h => by cases h)⟩
     ·
      have hlt' : ¬ (k : Int) < (s.size : Int) := by omega
      go_wp2_with fail
      go_meet
      case rel => exact ⟨rfl, false, rfl, (fun h => by cases h), fun _ h => absurd h hlt⟩
    case rest =>
     obtain ⟨rfl, H29⟩ := hcut
     obtain ⟨b9, rfl, hb9t, hb9f⟩ := H29.out
     cases b9
     ·
      have h10 := hb9f rfl
      clear hb9t hb9f H29
      go_upto_region 10 with fail
      go_cut [38] (fun s38 wc' => wc' = wc ∧ Hid (B10 s38 s f k))
      case first =>
       by_cases hke : k = s.size
       ·
        by_cases hfe : f = k
        ·
         have e1 : ((k : Int) == (s.size : Int)) = true := by simp; omega
         have e2 : ((f : Int) == (k : Int)) = true := by simp; omega
         have HB := hid' (And.intro hke hfe)
         clear hke hfe
         go_wp2_with fail
         go_meet
         case rel => exact ⟨rfl, true, rfl, fun _ => HB.out, (fun h => by cases h)⟩
        ·
         have e1 : ((k : Int) == (s.size : Int)) = true := by simp; omega
         have e2 : ((f : Int) == (k : Int)) = false := by simp; omega
         have HB := hid' (show ¬ (k = s.size ∧ f = k) from fun h => hfe h.2)
         clear hke hfe
         go_wp2_with fail
         go_meet
         case rel => exact ⟨rfl, false, rfl, (fun h => by cases h), fun _ => HB.out⟩
       ·
        have e1 : ((k : Int) == (s.size : Int)) = false := by simp; omega
        have HB := hid' (show ¬ (k = s.size ∧ f = k) from fun h => hke h.1)
        clear hke
        go_wp2_with fail
        go_meet
        case rel => exact ⟨rfl, false, rfl, (fun h => by cases h), fun _ => HB.out⟩
      case rest =>
       obtain ⟨rfl, H38⟩ := hcut
       obtain ⟨b10, rfl, hb10t, hb10f⟩ := H38.out
       cases b10
       ·
        have hnb := hb10f rfl
        clear hb10t hb10f H38
        have HG := hid' (H.out.piece hfk hle h10)
        have HRR := hid' (HR0.out.trans HG.out)
        clear h10
        go_wp2_with fail
        go_loopw [9] (fun vi wx => ∃ j : Nat, f ≤ j ∧ j ≤ k ∧ vi = .int .i64 (j : Int) ∧ Hid (((s.data.toList.take j).drop f).all okB = true) ∧ wx = wc) (fun vi _ => k - (intOf vi).toNat)
        case atStart => exact ⟨f, Nat.le_refl _, hfk, rfl, hid' (by rw [part_none]; rfl), rfl⟩
        case round =>
         obtain ⟨j, hfj, hjk, rfl, HD, rfl⟩ := hrel
         by_cases hltj : j < k
         ·
          have hij : (j : Int) < (k : Int) := by omega
          have hjs : j < s.size := by omega
          have hjs' : (j : Int) < (s.size : Int) := by omega
          have HB := hid' (isBI_of s[j])
          go_wp2_with fail
          refine (blank_any _ _).mono ?_
          rintro e w9 ⟨rfl, rfl⟩
          by_cases hb0 : isBI (s[j].toNat : Int) = true
          ·
           rw [hb0]
           have HOb := hid' (show okB s[j] = true by unfold okB; rw [← HB.out, hb0]; rfl)
           go_wp2_with fail
           go_roundw
           case rel => exact ⟨j + 1, by omega, by omega, by go_num, all_part hfj hjs HD.out HOb.out, trivial⟩
           case measure => show k - ((j : Int) + 1).toNat < k - (j : Int).toNat; omega
          ·
           have hb0 : isBI (s[j].toNat : Int) = false := by simpa using hb0
           rw [hb0]
           by_cases hb1 : s[j].toNat < 33
           ·
            have hb1' : (s[j].toNat : Int) < 33 := by omega
            have HRe := hid' (show R = ([], n + 1, 60) by
             have ho : okB s[j] = false := by unfold okB; rw [← HB.out, hb0, decide_eq_false (by omega)]; rfl
             rw [HRR.out, go]
             unfold tk
             rw [if_pos (not_part hfj hltj hle ho)])
            clear hb1
            go_wp2_with fail
            go_ret3
            refine ⟨H.out.kp, ?_⟩
            rw [HRe.out]
            exact ⟨_, [], rfl, OwnL.nil _ _⟩
           ·
            have hb1' : ¬ (s[j].toNat : Int) < 33 := by omega
            by_cases hb2 : 126 < s[j].toNat
            ·
             have hb2' : (126 : Int) < (s[j].toNat : Int) := by omega
             have HRe := hid' (show R = ([], n + 1, 60) by
              have ho : okB s[j] = false := by unfold okB; rw [← HB.out, hb0, decide_eq_false (by omega)]; rfl
              rw [HRR.out, go]
              unfold tk
              rw [if_pos (not_part hfj hltj hle ho)])
             clear hb1 hb2
             go_wp2_with fail
             go_ret3
             refine ⟨H.out.kp, ?_⟩
             rw [HRe.out]
             exact ⟨_, [], rfl, OwnL.nil _ _⟩
            ·
             have hb2' : ¬ (126 : Int) < (s[j].toNat : Int) := by omega
             have HOb := hid' (show okB s[j] = true by unfold okB; rw [decide_eq_true (show 33 ≤ s[j].toNat ∧ s[j].toNat ≤ 126 by omega), Bool.or_true])
             clear hb1 hb2
             go_wp2_with fail
             go_roundw
             case rel => exact ⟨j + 1, by omega, by omega, by go_num, all_part hfj hjs HD.out HOb.out, trivial⟩
             case measure => show k - ((j : Int) + 1).toNat < k - (j : Int).toNat; omega
         ·
          have hij : ¬ (j : Int) < (k : Int) := by omega
          have hjk' : j = k := by omega
          subst hjk'
          have hall := HD.out
          have hpw := rwords_any (s.extract f j) wr (by rw [ByteArray.size_extract]; omega)
          rw [ext_part] at hpw
          have hwl : (wordsL ((s.data.toList.take j).drop f)).length ≤ 65537 := by
           have := words_len (s := s.extract f j) (by rw [ByteArray.size_extract]; omega)
           rwa [ext_part] at this
          have hwne : ∀ x ∈ wordsL ((s.data.toList.take j).drop f), x ≠ [] := wd_ne _ _
          have hno := fun h => tk_no (told := told) (n := n + 1) (l := (s.data.toList.take j).drop f) hall h
          have hbe := fun h => tk_begins (told := told) (n := n + 1) (l := (s.data.toList.take j).drop f) hall h
          have hgo := fun h => tk_goes (told := told) (n := n + 1) (l := (s.data.toList.take j).drop f) hall h
          have hkc := kindI_cases (wordsL ((s.data.toList.take j).drop f))
          have HGO := hid' HG.out
          obtain ⟨p, hp⟩ : ∃ p, p = (s.data.toList.take j).drop f := ⟨_, rfl⟩
          rw [← hp] at hpw hwl hwne hno hbe hgo hkc HGO HRR
          clear hp hall HD
          obtain ⟨ws, hws⟩ : ∃ ws, ws = wordsL p := ⟨_, rfl⟩
          rw [← hws] at hpw hwl hwne hno hbe hgo hkc
          clear hws
          have f0 : (0 : Int) ≤ (f : Int) := by omega
          have f1 : (f : Int) ≤ (j : Int) := by omega
          have f2 : (j : Int) ≤ (s.size : Int) := by omega
          have HOK := hid' (And.intro H.out.ok H.out.cnt)
          have hnk : told.length ≤ 70000 := by have := H.out.cnt; omega
          go_wp2_with fail
          refine hpw.mono ?_
          rintro e w2 ⟨hk2, wv, rfl, own2⟩
          have HW := hid' (And.intro hk2 own2)
          have HKB2 := hid' (H.out.kp.trans hk2)
          have HOW := hid' (H.out.own.kept hk2)
          clear hpw hk2
          rcases hkc with hkd | hkd | hkd
          ·
           have HTK := hid' (hno hkd)
           have HI : Hid (LiI w w2 s.data.toList u5 (n + 1) (j + 1) (j + 1) told vs) := LiI.next hle HGO.out HTK.out HKB2.out HOW.out HOK.out.1 HOK.out.2
           clear hno hbe hgo
           cases ws with
           | nil =>
            obtain ⟨wa, wc, rfl⟩ := own2.shape
            clear own2 hwne
            go_wp2_with fail
            go_roundw
            case rel => exact ⟨j + 1, n + 1, j + 1, _, _, by omega, Nat.le_refl _, by omega, fun _ => by omega, by go_num, by go_num, by go_num, HI.out⟩
            case measure => show s.size + 1 - ((j : Int) + 1).toNat < s.size + 1 - (j : Int).toNat; omega
           | cons x xs =>
            obtain ⟨gw, cw, rfl, hcw, _, _, c0, _⟩ := len_out own2
            have hx : 0 < (bs x).size := by rw [bs_size]; exact List.length_pos_iff.2 (hwne x (by simp))
            have i1 := isC_at 42 x hx
            have i1' : ((bs x)[0].toNat : Int) = 42 := by
             rw [kindI] at hkd
             by_cases h42 : isC 42 x = true
             ·
              rw [h42] at i1
              simpa using i1.symm
             ·
              rw [if_neg h42] at hkd
              split at hkd <;> exact absurd hkd (by decide)
            have hxz : (0 : Int) < ((bs x).size : Int) := by omega
            have n5 : (0 : Int) < (xs.length : Int) + 1 := by omega
            have n6 : ¬ (xs.length : Int) + 1 = 0 := by omega
            have n7 : ((xs.length : Int) + 1 == 0) = false := by simpa using n6
            clear own2 hwne i1
            generalize bs x = t0 at *
            generalize xs.length = xn at *
            go_wp2_with fail
            go_roundw
            case rel => exact ⟨j + 1, n + 1, j + 1, _, _, by omega, Nat.le_refl _, by omega, fun _ => by omega, by go_num, by go_num, by go_num, HI.out⟩
            case measure => show s.size + 1 - ((j : Int) + 1).toNat < s.size + 1 - (j : Int).toNat; omega
          ·
           obtain ⟨⟨x, xs, hxx, h43⟩, htk⟩ := hgo hkd
           subst hxx
           clear hno hbe hgo
           obtain ⟨gw, cw, rfl, hcw, hgwB, hgwl, c0, cj⟩ := len_out own2
           have hx : 0 < (bs x).size := by rw [bs_size]; exact List.length_pos_iff.2 (hwne x (by simp))
           have i1 := isC_at 42 x hx
           have i2 := isC_at 43 x hx
           have h42 : isC 42 x = false := by
            cases x with
            | nil => cases h43
            | cons c r =>
             have : c.toNat = 43 := by simpa [isC] using h43
             simp [isC, this]
           rw [h42] at i1
           rw [h43] at i2
           have i1' : ¬ ((bs x)[0].toNat : Int) = 42 := by simpa using i1.symm
           have i2' : ((bs x)[0].toNat : Int) = 43 := by simpa using i2.symm
           have i1b : (((bs x)[0].toNat : Int) == 42) = false := by simpa using i1'
           have hxz : (0 : Int) < ((bs x).size : Int) := by omega
           have HBL := hid' (bs_size x)
           have HT0 := hid' (show bs x.tail = (bs x).extract 1 (bs x).size by
            rw [← bs_back ((bs x).extract 1 (bs x).size), ext_end, bs_list, List.drop_one])
           obtain ⟨xn, hxn⟩ : ∃ xn, xn = xs.length := ⟨_, rfl⟩
           rw [← hxn] at hcw cj HW ⊢
           have hwl : xn + 1 ≤ 65537 := by rw [hxn]; simpa using hwl
           have n5 : (0 : Int) < (xn : Int) + 1 := by omega
           have n6 : ¬ (xn : Int) + 1 = 0 := by omega
           have n7 : ((xn : Int) + 1 == 0) = false := by simpa using n6
           have n8 : (1 : Int) ≤ (xn : Int) + 1 := by omega
           have n9 : (0 : Int) ≤ (xn : Int) := by omega
           have HXN := hid' hxn
           have HC0 := hid' c0
           have HCJ := hid' cj
           clear own2 i1 i2 hxn cj h42
           generalize bs x = t0s at *
           rcases List.eq_nil_or_concat told with rfl | ⟨t0, y, rfl⟩
           ·
            have HRe := hid' (show R = ([], n + 1, 61) by rw [HRR.out, go, htk]; rfl)
            obtain ⟨ta, tc, rfl⟩ := HOW.out.shape
            rw [List.length_nil]
            clear htk
            go_wp2_with fail
            go_ret3
            refine ⟨HKB2.out, ?_⟩
            rw [HRe.out]
            exact ⟨_, [], rfl, OwnL.nil _ _⟩
           ·
            rw [List.concat_eq_append] at *
            simp only [List.getLast?_concat, List.dropLast_concat] at htk
            obtain ⟨ya, Y⟩ := y
            simp only at htk
            have HTK0 := hid' htk
            have hylen := (HOK.out.1 (ya, Y) (by simp)).2.1
            have hyne := (HOK.out.1 (ya, Y) (by simp)).1
            simp only at hylen hyne
            obtain ⟨vs0, lv, rfl⟩ : ∃ vs0 lv, vs = vs0 ++ [lv] := by
             rcases List.eq_nil_or_concat vs with rfl | ⟨a, b, rfl⟩
             ·
              have := HOW.out.len; simp at this
             ·
              exact ⟨a, b, by simp⟩
            have hlv := HOW.out.own t0.length (by simp)
            rw [getD_last _ _ _ rfl, getD_last _ _ _ (show t0.length = vs0.length by have := HOW.out.len; simp at this; omega)] at hlv
            obtain ⟨gl, cl, rfl, hglB, hgll, _⟩ := hlv.read (List.length_pos_iff.2 hyne)
            obtain ⟨ta, tc, rfl⟩ := HOW.out.shape
            have htl' : (t0 ++ [(ya, Y)]).length = t0.length + 1 := by simp
            rw [htl'] at HOW hnk ⊢
            obtain ⟨g, rfl⟩ : ∃ g, ta = some ⟨g, 0, none⟩ := by
             obtain ⟨_, ⟨h2, _⟩ | ⟨g, cap', cur, h2, _⟩⟩ := HOW.out.row
             ·
              simp at h2
             ·
              simp only [Value.slice.injEq] at h2
              exact ⟨g, h2.1⟩
            have hgwn : ¬ gw = gl := by
             have h1 := H.out.own.own t0.length (by simp)
             rw [getD_last _ _ _ rfl, getD_last _ _ _ (show t0.length = vs0.length by have := HOW.out.len; simp at this; omega)] at h1
             have := (h1.lt gl rfl).2
             omega
            have hgwg : ¬ gw = g := by
             have := (H.out.own.row.lt g (by simp [Value.ownBlock])).2
             omega
            obtain ⟨tn, htn⟩ : ∃ tn, tn = t0.length := ⟨_, rfl⟩
            obtain ⟨mm, hmm⟩ : ∃ mm, mm = Y.length := ⟨_, rfl⟩
            rw [← htn] at HOW hnk ⊢
            rw [← hmm] at HOW hylen
            have HTN := hid' htn
            have HO := HOW
            have HKB := HKB2
            have HYN := hid' hyne
            have hmmb : mm ≤ 65 := by omega
            clear htk htl' hlv htn hmm HOW HKB2 hyne
            have m1 : ((tn : Int) + 1 - 1) = (tn : Int) := by omega
            have m2 : IntKind.i64.wrap (tn : Int) = (tn : Int) := by rw [IntKind.wrap_i64]; omega
            have m3 : (tn : Int) < (tn : Int) + 1 := by omega
            have m4 : (0 : Int) ≤ (tn : Int) := by omega
            have m5 : ¬ (tn : Int) + 1 = 0 := by omega
            have m6 : ((tn : Int) + 1 == 0) = false := by simpa using m5
            by_cases htl : x.tail = []
            ·
             have hx1 : ¬ (1 : Int) < (t0s.size : Int) := by
              have : x.length ≤ 1 := by
               cases x with
               | nil => simp
               | cons c r => simp at htl; simp [htl]
              have := HBL.out
              omega
             have HTK := hid' (show tk (t0 ++ [(ya, Y)]) (n + 1) p = if 64 < (Y ++ xs).length then Except.error 7 else Except.ok (t0 ++ [(ya, Y ++ xs)]) by
              rw [HTK0.out, show noPlus (x :: xs) = xs from if_pos htl])
             have e : w2 = w2 := rfl
             generalize hwb : w2 = wb at HO HKB HCJ c0 HC0 hgwl hgll HW e ⊢
             clear hwb e HW
             by_cases hcw1 : cw = 1
             ·
              subst hcw1
              have hc3 := owns_cell (by have := HO.out.row; simp only [List.length_append, List.length_singleton] at this; rw [← HTN.out] at this; exact this) (lnc_at (t0 ++ [(ya, Y)]) (vs0 ++ [.slice (some ⟨gl, 0, none⟩) mm cl]) tn (by simpa using HO.out.len) (by simp; have := HTN.out; omega)).2
              rw [getD_last _ _ _ (show tn = vs0.length by have := HO.out.len; have := HTN.out; simp at *; omega)] at hc3
              have hz3 := owns_frozen (by have := HO.out.row; simp only [List.length_append, List.length_singleton] at this; rw [← HTN.out] at this; exact this) (tn * 2 + 1)
              have hlast := HO.out.own t0.length (by simp)
              rw [getD_last _ _ _ rfl, getD_last _ _ _ (show t0.length = vs0.length by have := HO.out.len; simp at this; omega)] at hlast
              have hYl : mm = Y.length := by
               obtain ⟨_, _, hv⟩ := hlast.shape
               simp only [Value.slice.injEq] at hv
               exact hv.2.1
              have hfl : ¬ g = gl := by
               intro e
               have := HO.out.far t0.length gl (by simp) (by rw [getD_last _ _ _ (show t0.length = vs0.length by have := HO.out.len; simp at this; omega)]; rfl)
               exact this (by rw [e]; rfl)
              have hgl : gl < wb.heap.size := (hlast.lt gl rfl).2
              have hgB : w.heap.size ≤ gl := (hlast.lt gl rfl).1
              have hgg : g < wb.heap.size := (HO.out.row.lt g rfl).2
              have hgB' : w.heap.size ≤ g := (HO.out.row.lt g rfl).1
              have hmc : mm ≤ cl := by
               have := hlast
               unfold OwnS at this
               rw [← hYl] at this
               exact (row_of_owns this).2.1
              have hBw : w.heap.size ≤ wb.heap.size := by omega
              have hm63 : mm + xn ≤ maxLen := by unfold maxLen; omega
              have HYL := hid' (And.intro hYl hlast)
              have HZ3 := hid' hz3
              clear hYl hlast hz3
              have sS := hid' (fun (V : World) (K : ∀ b, b < wb.heap.size → ¬ b = gl → V.heap[b]? = wb.heap[b]?) => (show V.cell? ⟨g, tn * 2 + 1, none⟩ = some (.slice (some ⟨gl, 0, none⟩) mm cl) ∧ True from ⟨(World.cell?_of_block (a := ⟨g, tn * 2 + 1, none⟩) (K g hgg hfl)).trans hc3, trivial⟩))
              have KT : ∀ b, b < wb.heap.size → ¬ b = gl → wb.drew.heap[b]? = wb.heap[b]? := fun _ _ _ => rfl
              go_upto_region 25 with fail
              refine region_z 16 (S := fun w' => w'.cell? ⟨g, tn * 2 + 1, none⟩ = some (.slice (some ⟨gl, 0, none⟩) mm cl) ∧ True) (by kernel_rfl) (sS.out _ KT) (fun hHeld => ?_)
              have hOd : wb.drew.ownsRow w.heap.size 9 1 (.slice (some ⟨gl, 0, none⟩) mm cl) mm (strs Y) := by
               have := HYL.out.2
               unfold OwnS at this
               rw [← HYL.out.1] at this
               exact this
              have hcjd : ∀ i, i < xn → wb.drew.cell? ⟨gw, 1 + i, none⟩ = some (.string (bs (xs.getD i []))) := HCJ.out
              have KB : Kept w wb.drew := HKB.out.drew
              generalize hwd : wb.drew = wbd at KT KB hHeld hOd hcjd ⊢
              have HWDS := hid' (show wbd.heap.size = wb.heap.size by rw [← hwd]; rfl)
              have HWB := hid' (show ∀ b, b < wb.heap.size → wbd.heap[b]? = wb.heap[b]? from fun b _ => by rw [← hwd]; rfl)
              have hBd : w.heap.size ≤ wbd.heap.size := by have := HWDS.out; omega
              clear hwd
              have HOd := hid' hOd
              clear hOd
              refine anyZ_take (i := 0) (v := ?vbp43) rfl (by kernel_rfl) (by kernel_rfl) (by kernel_rfl) (by kernel_rfl) (fun _ _ _ h => h) (Or.inl ⟨by rfl, ?ybp43⟩) hHeld ?rbp43
              case ybp43 =>
               intro w' hSw
               obtain ⟨hSw0, hSw1⟩ := hSw
               go_simp
               with_reducible rfl
              case rbp43 =>
              refine anyZ_take (i := 1) (v := ?vbp44) rfl (by kernel_rfl) (by kernel_rfl) (by kernel_rfl) (by kernel_rfl) (fun _ _ _ h => h) (Or.inl ⟨by rfl, ?ybp44⟩) hHeld ?rbp44
              case ybp44 =>
               intro w' hSw
               obtain ⟨hSw0, hSw1⟩ := hSw
               go_simp
               with_reducible rfl
              case rbp44 =>
              refine anyZ_take (i := 2) (v := ?vbp45) rfl (by kernel_rfl) (by kernel_rfl) (by kernel_rfl) (by kernel_rfl) (fun _ _ _ h => h) (Or.inl ⟨by rfl, ?ybp45⟩) hHeld ?rbp45
              case ybp45 =>
               intro w' hSw
               obtain ⟨hSw0, hSw1⟩ := hSw
               go_simp
               with_reducible rfl
              case rbp45 =>
              refine anyZ_take (i := 3) (v := ?vbp46) rfl (by kernel_rfl) (by kernel_rfl) (by kernel_rfl) (by kernel_rfl) (fun _ _ _ h => h) (Or.inl ⟨by rfl, ?ybp46⟩) hHeld ?rbp46
              case ybp46 =>
               intro w' hSw
               obtain ⟨hSw0, hSw1⟩ := hSw
               go_simp
               with_reducible rfl
              case rbp46 =>
              refine anyZ_take (i := 4) (v := ?vbp47) rfl (by kernel_rfl) (by kernel_rfl) (by kernel_rfl) (by kernel_rfl) (fun _ _ _ h => h) (Or.inl ⟨by rfl, ?ybp47⟩) hHeld ?rbp47
              case ybp47 =>
               intro w' hSw
               obtain ⟨hSw0, hSw1⟩ := hSw
               go_simp
               with_reducible rfl
              case rbp47 =>
              refine anyZ_take (i := 5) (v := ?vbp48) rfl (by kernel_rfl) (by kernel_rfl) (by kernel_rfl) (by kernel_rfl) (fun _ _ _ h => h) (Or.inl ⟨by rfl, ?ybp48⟩) hHeld ?rbp48
              case ybp48 =>
               intro w' hSw
               obtain ⟨hSw0, hSw1⟩ := hSw
               go_simp
               with_reducible rfl
              case rbp48 =>
              refine anyZ_take (i := 6) (v := ?vbp49) rfl (by kernel_rfl) (by kernel_rfl) (by kernel_rfl) (by kernel_rfl) (fun _ _ _ h => h) (Or.inl ⟨by rfl, ?ybp49⟩) hHeld ?rbp49
              case ybp49 =>
               intro w' hSw
               obtain ⟨hSw0, hSw1⟩ := hSw
               go_simp
               with_reducible rfl
              case rbp49 =>
              refine anyZ_take (i := 7) (v := ?vbp50) rfl (by kernel_rfl) (by kernel_rfl) (by kernel_rfl) (by kernel_rfl) (fun _ _ _ h => h) (Or.inl ⟨by rfl, ?ybp50⟩) hHeld ?rbp50
              case ybp50 =>
               intro w' hSw
               obtain ⟨hSw0, hSw1⟩ := hSw
               go_simp
               with_reducible rfl
              case rbp50 =>
              refine anyZ_take (i := 8) (v := ?vbp51) rfl (by kernel_rfl) (by kernel_rfl) (by kernel_rfl) (by kernel_rfl) (fun _ _ _ h => h) (Or.inl ⟨by rfl, ?ybp51⟩) hHeld ?rbp51
              case ybp51 =>
               intro w' hSw
               obtain ⟨hSw0, hSw1⟩ := hSw
               go_simp
               with_reducible rfl
              case rbp51 =>
              refine anyZ_take (i := 9) (v := ?vbp52) rfl (by kernel_rfl) (by kernel_rfl) (by kernel_rfl) (by kernel_rfl) (fun _ _ _ h => h) (Or.inl ⟨by rfl, ?ybp52⟩) hHeld ?rbp52
              case ybp52 =>
               intro w' hSw
               obtain ⟨hSw0, hSw1⟩ := hSw
               go_simp
               with_reducible rfl
              case rbp52 =>
              refine anyZ_take (i := 10) (v := ?vbp53) rfl (by kernel_rfl) (by kernel_rfl) (by kernel_rfl) (by kernel_rfl) (fun _ _ _ h => h) (Or.inl ⟨by rfl, ?ybp53⟩) hHeld ?rbp53
              case ybp53 =>
               intro w' hSw
               obtain ⟨hSw0, hSw1⟩ := hSw
               go_simp
               with_reducible rfl
              case rbp53 =>
              refine anyZ_take (i := 11) (v := ?vbp54) rfl (by kernel_rfl) (by kernel_rfl) (by kernel_rfl) (by kernel_rfl) (fun _ _ _ h => h) (Or.inl ⟨by rfl, ?ybp54⟩) hHeld ?rbp54
              case ybp54 =>
               intro w' hSw
               obtain ⟨hSw0, hSw1⟩ := hSw
               go_simp
               with_reducible rfl
              case rbp54 =>
              refine anyZ_ready (rs := [12]) (by kernel_rfl) (by simp) ?_
              refine AllZ.cons rfl (fun K hK => ?_) AllZ.nil
              go_simp
              refine hK.out _ _ (sS.out _ KT) (fun hHeld => ?_)
              clear hK K
              refine anyZ_ready (rs := [13]) (by kernel_rfl) (by simp) ?_
              refine AllZ.cons rfl (fun K hK => ?_) AllZ.nil
              refine step_app rfl (.tmp 125) (.tmp 127) 30 rfl w.heap.size 9 i0 (.string ByteArray.empty) 1 16 und_strs hi0 hz0 hz1 hz2 rfl (by decide) gl mm cl (strs Y) rfl HOd.out hmc (some ⟨gw, 0, none⟩) xn 0 (strs xs) (by rw [show xn = 0 by omega] <;> rfl) (by rw [strs_len, ← HXN.out]) (fun h0 => ?hnewsbp) (strs_one _) hm63 (by omega) hBd ?_
              case hnewsbp =>
               omega
              intro gl' cl' w5 hown5 hg5 hgl5
              have KT : ∀ b, b < wb.heap.size → ¬ b = gl → w5.heap[b]? = wb.heap[b]? := fun b hb hne => (hg5.block b (by have := HWDS.out; omega) (fun e => hne (by simpa using e))).trans (HWB.out b hb)
              refine hK.out _ _ (sS.out _ KT) (fun hHeld => ?_)
              clear hK K
              refine anyZ_ready (rs := [14]) (by kernel_rfl) (by simp) ?_
              refine AllZ.cons rfl (fun K hK => ?_) AllZ.nil
              go_simp
              refine hK.out _ _ (sS.out _ KT) (fun hHeld => ?_)
              clear hK K
              refine anyZ_take (i := 15) (v := ?vbp55) rfl (by kernel_rfl) (by kernel_rfl) (by kernel_rfl) (by kernel_rfl) (fun _ _ _ h => h) (Or.inl ⟨by rfl, ?ybp55⟩) hHeld ?rbp55
              case ybp55 =>
               intro w' hSw
               obtain ⟨hSw0, hSw1⟩ := hSw
               go_simp
               with_reducible rfl
              case rbp55 =>
              have hz5 : w5.frozen? ⟨g, tn * 2 + 1, none⟩ = false := (World.frozen?_of_block (a := ⟨g, tn * 2 + 1, none⟩) (KT g hgg hfl)).trans HZ3.out
              have hHeld := hHeld.1
              refine anyZ_ready (rs := [16]) (by kernel_rfl) (by simp) ?_
              refine AllZ.last rfl (fun K hK => ?_)
              go_simp
              refine hK.out _ _ ?_
              clear hK K
              refine anyZ_done (by kernel_rfl) ?_ _
              have HN : Hid (Kept w (w5.setCell ⟨g, tn * 2 + 1, none⟩ (.slice (some ⟨gl', 0, none⟩) (mm + xn) cl')) ∧ OwnL w.heap.size (w5.setCell ⟨g, tn * 2 + 1, none⟩ (.slice (some ⟨gl', 0, none⟩) (mm + xn) cl')) (.slice (some ⟨g, 0, none⟩) (tn + 1) tc) (t0 ++ [(ya, Y ++ xs)]) (vs0 ++ [.slice (some ⟨gl', 0, none⟩) (mm + xn) cl'])) := by
               refine ⟨(Below.grown KB hg5 hBd (fun j hj => by simp only [Option.some.injEq] at hj; omega)).setCell (p := ⟨g, tn * 2 + 1, none⟩) hgB' _, ?_⟩
               have hO := HO.out.blocks HWB.out
               rw [HTN.out] at hO ⊢
               have hw5 : OwnS w.heap.size w5 (.slice (some ⟨gl', 0, none⟩) (mm + xn) cl') (Y ++ xs) := by
                unfold OwnS
                rw [strs_app, List.length_append, ← HYL.out.1, ← HXN.out]
                exact hown5
               refine OwnL.last (y := (ya, Y)) rfl hO hw5 (by simp [HYN.out]) hg5 (fun b hb => ?_)
               have e : gl' = b := by simpa [Value.ownBlock] using hb
               rcases hgl5 with h | h
               ·
                left; rw [← e, ← h]; rfl
               ·
                right; omega
              have hcn : (w5.setCell ⟨g, tn * 2 + 1, none⟩ (.slice (some ⟨gl', 0, none⟩) (mm + xn) cl')).cell? ⟨g, tn * 2 + 1, none⟩ = some (.slice (some ⟨gl', 0, none⟩) (mm + xn) cl') := World.cell?_setCell_same _ _ _ hHeld
              generalize w5.setCell ⟨g, tn * 2 + 1, none⟩ (.slice (some ⟨gl', 0, none⟩) (mm + xn) cl') = W6 at HN hcn ⊢
              have HKM := hid' (show (Y ++ xs).length = mm + xn by rw [List.length_append, ← HYL.out.1, ← HXN.out])
              clear hHeld KT hown5 hg5 hgl5 hz5 sS hc3 hcjd KB HWDS HWB hBd HOd hcw
              by_cases h6 : 64 < mm + xn
              ·
               have h6' : (64 : Int) < (mm : Int) + (xn : Int) := by omega
               have HR := hid' (show R = ([], n + 1, 7) by
                rw [HRR.out, go, HTK.out, HKM.out, if_pos h6])
               go_wp2_with fail
               go_ret3
               refine ⟨HN.out.1, ?_⟩
               rw [HR.out]
               exact ⟨_, [], rfl, OwnL.nil _ _⟩
              ·
               have h6' : ¬ (64 : Int) < (mm : Int) + (xn : Int) := by omega
               have HI : Hid (LiI w W6 s.data.toList (.slice (some ⟨g, 0, none⟩) (tn + 1) tc) (n + 1) (j + 1) (j + 1) (t0 ++ [(ya, Y ++ xs)]) (vs0 ++ [.slice (some ⟨gl', 0, none⟩) (mm + xn) cl'])) := LiI.next hle HGO.out (by rw [HTK.out, HKM.out, if_neg h6]) HN.out.1 HN.out.2 HOK.out.1 HOK.out.2
               go_wp2_with fail
               go_roundw
               case rel => exact ⟨j + 1, n + 1, j + 1, _, _, by omega, Nat.le_refl _, by omega, fun _ => by omega, by go_num, by go_num, by go_num, HI.out⟩
               case measure => show s.size + 1 - ((j : Int) + 1).toNat < s.size + 1 - (j : Int).toNat; omega
             ·
              have hcw2 : 1 < cw := by omega
              have hc3 := owns_cell (by have := HO.out.row; simp only [List.length_append, List.length_singleton] at this; rw [← HTN.out] at this; exact this) (lnc_at (t0 ++ [(ya, Y)]) (vs0 ++ [.slice (some ⟨gl, 0, none⟩) mm cl]) tn (by simpa using HO.out.len) (by simp; have := HTN.out; omega)).2
              rw [getD_last _ _ _ (show tn = vs0.length by have := HO.out.len; have := HTN.out; simp at *; omega)] at hc3
              have hz3 := owns_frozen (by have := HO.out.row; simp only [List.length_append, List.length_singleton] at this; rw [← HTN.out] at this; exact this) (tn * 2 + 1)
              have hlast := HO.out.own t0.length (by simp)
              rw [getD_last _ _ _ rfl, getD_last _ _ _ (show t0.length = vs0.length by have := HO.out.len; simp at this; omega)] at hlast
              have hYl : mm = Y.length := by
               obtain ⟨_, _, hv⟩ := hlast.shape
               simp only [Value.slice.injEq] at hv
               exact hv.2.1
              have hfl : ¬ g = gl := by
               intro e
               have := HO.out.far t0.length gl (by simp) (by rw [getD_last _ _ _ (show t0.length = vs0.length by have := HO.out.len; simp at this; omega)]; rfl)
               exact this (by rw [e]; rfl)
              have hgl : gl < wb.heap.size := (hlast.lt gl rfl).2
              have hgB : w.heap.size ≤ gl := (hlast.lt gl rfl).1
              have hgg : g < wb.heap.size := (HO.out.row.lt g rfl).2
              have hgB' : w.heap.size ≤ g := (HO.out.row.lt g rfl).1
              have hmc : mm ≤ cl := by
               have := hlast
               unfold OwnS at this
               rw [← hYl] at this
               exact (row_of_owns this).2.1
              have hBw : w.heap.size ≤ wb.heap.size := by omega
              have hm63 : mm + xn ≤ maxLen := by unfold maxLen; omega
              have HYL := hid' (And.intro hYl hlast)
              have HZ3 := hid' hz3
              clear hYl hlast hz3
              have sS := hid' (fun (V : World) (K : ∀ b, b < wb.heap.size → ¬ b = gl → V.heap[b]? = wb.heap[b]?) => (show V.cell? ⟨g, tn * 2 + 1, none⟩ = some (.slice (some ⟨gl, 0, none⟩) mm cl) ∧ True from ⟨(World.cell?_of_block (a := ⟨g, tn * 2 + 1, none⟩) (K g hgg hfl)).trans hc3, trivial⟩))
              have KT : ∀ b, b < wb.heap.size → ¬ b = gl → wb.drew.heap[b]? = wb.heap[b]? := fun _ _ _ => rfl
              go_upto_region 25 with fail
              refine region_z 16 (S := fun w' => w'.cell? ⟨g, tn * 2 + 1, none⟩ = some (.slice (some ⟨gl, 0, none⟩) mm cl) ∧ True) (by kernel_rfl) (sS.out _ KT) (fun hHeld => ?_)
              have hOd : wb.drew.ownsRow w.heap.size 9 1 (.slice (some ⟨gl, 0, none⟩) mm cl) mm (strs Y) := by
               have := HYL.out.2
               unfold OwnS at this
               rw [← HYL.out.1] at this
               exact this
              have hcjd : ∀ i, i < xn → wb.drew.cell? ⟨gw, 1 + i, none⟩ = some (.string (bs (xs.getD i []))) := HCJ.out
              have KB : Kept w wb.drew := HKB.out.drew
              generalize hwd : wb.drew = wbd at KT KB hHeld hOd hcjd ⊢
              have HWDS := hid' (show wbd.heap.size = wb.heap.size by rw [← hwd]; rfl)
              have HWB := hid' (show ∀ b, b < wb.heap.size → wbd.heap[b]? = wb.heap[b]? from fun b _ => by rw [← hwd]; rfl)
              have hBd : w.heap.size ≤ wbd.heap.size := by have := HWDS.out; omega
              clear hwd
              have HOd := hid' hOd
              clear hOd
              refine anyZ_take (i := 0) (v := ?vbq56) rfl (by kernel_rfl) (by kernel_rfl) (by kernel_rfl) (by kernel_rfl) (fun _ _ _ h => h) (Or.inl ⟨by rfl, ?ybq56⟩) hHeld ?rbq56
              case ybq56 =>
               intro w' hSw
               obtain ⟨hSw0, hSw1⟩ := hSw
               go_simp
               with_reducible rfl
              case rbq56 =>
              refine anyZ_take (i := 1) (v := ?vbq57) rfl (by kernel_rfl) (by kernel_rfl) (by kernel_rfl) (by kernel_rfl) (fun _ _ _ h => h) (Or.inl ⟨by rfl, ?ybq57⟩) hHeld ?rbq57
              case ybq57 =>
               intro w' hSw
               obtain ⟨hSw0, hSw1⟩ := hSw
               go_simp
               with_reducible rfl
              case rbq57 =>
              refine anyZ_take (i := 2) (v := ?vbq58) rfl (by kernel_rfl) (by kernel_rfl) (by kernel_rfl) (by kernel_rfl) (fun _ _ _ h => h) (Or.inl ⟨by rfl, ?ybq58⟩) hHeld ?rbq58
              case ybq58 =>
               intro w' hSw
               obtain ⟨hSw0, hSw1⟩ := hSw
               go_simp
               with_reducible rfl
              case rbq58 =>
              refine anyZ_take (i := 3) (v := ?vbq59) rfl (by kernel_rfl) (by kernel_rfl) (by kernel_rfl) (by kernel_rfl) (fun _ _ _ h => h) (Or.inl ⟨by rfl, ?ybq59⟩) hHeld ?rbq59
              case ybq59 =>
               intro w' hSw
               obtain ⟨hSw0, hSw1⟩ := hSw
               go_simp
               with_reducible rfl
              case rbq59 =>
              refine anyZ_take (i := 4) (v := ?vbq60) rfl (by kernel_rfl) (by kernel_rfl) (by kernel_rfl) (by kernel_rfl) (fun _ _ _ h => h) (Or.inl ⟨by rfl, ?ybq60⟩) hHeld ?rbq60
              case ybq60 =>
               intro w' hSw
               obtain ⟨hSw0, hSw1⟩ := hSw
               go_simp
               with_reducible rfl
              case rbq60 =>
              refine anyZ_take (i := 5) (v := ?vbq61) rfl (by kernel_rfl) (by kernel_rfl) (by kernel_rfl) (by kernel_rfl) (fun _ _ _ h => h) (Or.inl ⟨by rfl, ?ybq61⟩) hHeld ?rbq61
              case ybq61 =>
               intro w' hSw
               obtain ⟨hSw0, hSw1⟩ := hSw
               go_simp
               with_reducible rfl
              case rbq61 =>
              refine anyZ_take (i := 6) (v := ?vbq62) rfl (by kernel_rfl) (by kernel_rfl) (by kernel_rfl) (by kernel_rfl) (fun _ _ _ h => h) (Or.inl ⟨by rfl, ?ybq62⟩) hHeld ?rbq62
              case ybq62 =>
               intro w' hSw
               obtain ⟨hSw0, hSw1⟩ := hSw
               go_simp
               with_reducible rfl
              case rbq62 =>
              refine anyZ_take (i := 7) (v := ?vbq63) rfl (by kernel_rfl) (by kernel_rfl) (by kernel_rfl) (by kernel_rfl) (fun _ _ _ h => h) (Or.inl ⟨by rfl, ?ybq63⟩) hHeld ?rbq63
              case ybq63 =>
               intro w' hSw
               obtain ⟨hSw0, hSw1⟩ := hSw
               go_simp
               with_reducible rfl
              case rbq63 =>
              refine anyZ_take (i := 8) (v := ?vbq64) rfl (by kernel_rfl) (by kernel_rfl) (by kernel_rfl) (by kernel_rfl) (fun _ _ _ h => h) (Or.inl ⟨by rfl, ?ybq64⟩) hHeld ?rbq64
              case ybq64 =>
               intro w' hSw
               obtain ⟨hSw0, hSw1⟩ := hSw
               go_simp
               with_reducible rfl
              case rbq64 =>
              refine anyZ_take (i := 9) (v := ?vbq65) rfl (by kernel_rfl) (by kernel_rfl) (by kernel_rfl) (by kernel_rfl) (fun _ _ _ h => h) (Or.inl ⟨by rfl, ?ybq65⟩) hHeld ?rbq65
              case ybq65 =>
               intro w' hSw
               obtain ⟨hSw0, hSw1⟩ := hSw
               go_simp
               with_reducible rfl
              case rbq65 =>
              refine anyZ_take (i := 10) (v := ?vbq66) rfl (by kernel_rfl) (by kernel_rfl) (by kernel_rfl) (by kernel_rfl) (fun _ _ _ h => h) (Or.inl ⟨by rfl, ?ybq66⟩) hHeld ?rbq66
              case ybq66 =>
               intro w' hSw
               obtain ⟨hSw0, hSw1⟩ := hSw
               go_simp
               with_reducible rfl
              case rbq66 =>
              refine anyZ_take (i := 11) (v := ?vbq67) rfl (by kernel_rfl) (by kernel_rfl) (by kernel_rfl) (by kernel_rfl) (fun _ _ _ h => h) (Or.inl ⟨by rfl, ?ybq67⟩) hHeld ?rbq67
              case ybq67 =>
               intro w' hSw
               obtain ⟨hSw0, hSw1⟩ := hSw
               go_simp
               with_reducible rfl
              case rbq67 =>
              refine anyZ_ready (rs := [12]) (by kernel_rfl) (by simp) ?_
              refine AllZ.cons rfl (fun K hK => ?_) AllZ.nil
              go_simp
              refine hK.out _ _ (sS.out _ KT) (fun hHeld => ?_)
              clear hK K
              refine anyZ_ready (rs := [13]) (by kernel_rfl) (by simp) ?_
              refine AllZ.cons rfl (fun K hK => ?_) AllZ.nil
              refine step_app rfl (.tmp 125) (.tmp 127) 30 rfl w.heap.size 9 i0 (.string ByteArray.empty) 1 16 und_strs hi0 hz0 hz1 hz2 rfl (by decide) gl mm cl (strs Y) rfl HOd.out hmc _ xn _ (strs xs) rfl (by rw [strs_len, ← HXN.out]) (fun h0 => ?hnewsbq) (strs_one _) hm63 (by omega) hBd ?_
              case hnewsbq =>
               refine ⟨⟨gw, 1, none⟩, rfl, fun i u hu => ?_⟩
               have hj := (List.getElem?_eq_some_iff.1 hu).1
               rw [strs_len, Nat.mul_one, ← HXN.out] at hj
               rw [Addr.add_lit, hcjd i hj]
               rw [strs_at _ i (by rw [← HXN.out]; exact hj)] at hu
               exact hu
              intro gl' cl' w5 hown5 hg5 hgl5
              have KT : ∀ b, b < wb.heap.size → ¬ b = gl → w5.heap[b]? = wb.heap[b]? := fun b hb hne => (hg5.block b (by have := HWDS.out; omega) (fun e => hne (by simpa using e))).trans (HWB.out b hb)
              refine hK.out _ _ (sS.out _ KT) (fun hHeld => ?_)
              clear hK K
              refine anyZ_ready (rs := [14]) (by kernel_rfl) (by simp) ?_
              refine AllZ.cons rfl (fun K hK => ?_) AllZ.nil
              go_simp
              refine hK.out _ _ (sS.out _ KT) (fun hHeld => ?_)
              clear hK K
              refine anyZ_take (i := 15) (v := ?vbq68) rfl (by kernel_rfl) (by kernel_rfl) (by kernel_rfl) (by kernel_rfl) (fun _ _ _ h => h) (Or.inl ⟨by rfl, ?ybq68⟩) hHeld ?rbq68
              case ybq68 =>
               intro w' hSw
               obtain ⟨hSw0, hSw1⟩ := hSw
               go_simp
               with_reducible rfl
              case rbq68 =>
              have hz5 : w5.frozen? ⟨g, tn * 2 + 1, none⟩ = false := (World.frozen?_of_block (a := ⟨g, tn * 2 + 1, none⟩) (KT g hgg hfl)).trans HZ3.out
              have hHeld := hHeld.1
              refine anyZ_ready (rs := [16]) (by kernel_rfl) (by simp) ?_
              refine AllZ.last rfl (fun K hK => ?_)
              go_simp
              refine hK.out _ _ ?_
              clear hK K
              refine anyZ_done (by kernel_rfl) ?_ _
              have HN : Hid (Kept w (w5.setCell ⟨g, tn * 2 + 1, none⟩ (.slice (some ⟨gl', 0, none⟩) (mm + xn) cl')) ∧ OwnL w.heap.size (w5.setCell ⟨g, tn * 2 + 1, none⟩ (.slice (some ⟨gl', 0, none⟩) (mm + xn) cl')) (.slice (some ⟨g, 0, none⟩) (tn + 1) tc) (t0 ++ [(ya, Y ++ xs)]) (vs0 ++ [.slice (some ⟨gl', 0, none⟩) (mm + xn) cl'])) := by
               refine ⟨(Below.grown KB hg5 hBd (fun j hj => by simp only [Option.some.injEq] at hj; omega)).setCell (p := ⟨g, tn * 2 + 1, none⟩) hgB' _, ?_⟩
               have hO := HO.out.blocks HWB.out
               rw [HTN.out] at hO ⊢
               have hw5 : OwnS w.heap.size w5 (.slice (some ⟨gl', 0, none⟩) (mm + xn) cl') (Y ++ xs) := by
                unfold OwnS
                rw [strs_app, List.length_append, ← HYL.out.1, ← HXN.out]
                exact hown5
               refine OwnL.last (y := (ya, Y)) rfl hO hw5 (by simp [HYN.out]) hg5 (fun b hb => ?_)
               have e : gl' = b := by simpa [Value.ownBlock] using hb
               rcases hgl5 with h | h
               ·
                left; rw [← e, ← h]; rfl
               ·
                right; omega
              have hcn : (w5.setCell ⟨g, tn * 2 + 1, none⟩ (.slice (some ⟨gl', 0, none⟩) (mm + xn) cl')).cell? ⟨g, tn * 2 + 1, none⟩ = some (.slice (some ⟨gl', 0, none⟩) (mm + xn) cl') := World.cell?_setCell_same _ _ _ hHeld
              generalize w5.setCell ⟨g, tn * 2 + 1, none⟩ (.slice (some ⟨gl', 0, none⟩) (mm + xn) cl') = W6 at HN hcn ⊢
              have HKM := hid' (show (Y ++ xs).length = mm + xn by rw [List.length_append, ← HYL.out.1, ← HXN.out])
              clear hHeld KT hown5 hg5 hgl5 hz5 sS hc3 hcjd KB HWDS HWB hBd HOd
              by_cases h6 : 64 < mm + xn
              ·
               have h6' : (64 : Int) < (mm : Int) + (xn : Int) := by omega
               have HR := hid' (show R = ([], n + 1, 7) by
                rw [HRR.out, go, HTK.out, HKM.out, if_pos h6])
               go_wp2_with fail
               go_ret3
               refine ⟨HN.out.1, ?_⟩
               rw [HR.out]
               exact ⟨_, [], rfl, OwnL.nil _ _⟩
              ·
               have h6' : ¬ (64 : Int) < (mm : Int) + (xn : Int) := by omega
               have HI : Hid (LiI w W6 s.data.toList (.slice (some ⟨g, 0, none⟩) (tn + 1) tc) (n + 1) (j + 1) (j + 1) (t0 ++ [(ya, Y ++ xs)]) (vs0 ++ [.slice (some ⟨gl', 0, none⟩) (mm + xn) cl'])) := LiI.next hle HGO.out (by rw [HTK.out, HKM.out, if_neg h6]) HN.out.1 HN.out.2 HOK.out.1 HOK.out.2
               go_wp2_with fail
               go_roundw
               case rel => exact ⟨j + 1, n + 1, j + 1, _, _, by omega, Nat.le_refl _, by omega, fun _ => by omega, by go_num, by go_num, by go_num, HI.out⟩
               case measure => show s.size + 1 - ((j : Int) + 1).toNat < s.size + 1 - (j : Int).toNat; omega
            ·
             have hx1 : (1 : Int) < (t0s.size : Int) := by
              have : 1 < x.length := by
               cases x with
               | nil => simp at htl
               | cons c r =>
                cases r with
                | nil => simp at htl
                | cons d r => simp
              have := HBL.out
              omega
             have hx2 : (1 : Int) ≤ (t0s.size : Int) := by omega
             generalize hwb : w2 = wb at HO HKB HCJ c0 HC0 hgwl hgll HW ⊢
             clear hwb HW
             have hc3 := owns_cell (by have := HO.out.row; simp only [List.length_append, List.length_singleton] at this; rw [← HTN.out] at this; exact this) (lnc_at (t0 ++ [(ya, Y)]) (vs0 ++ [.slice (some ⟨gl, 0, none⟩) mm cl]) tn (by simpa using HO.out.len) (by simp; have := HTN.out; omega)).2
             rw [getD_last _ _ _ (show tn = vs0.length by have := HO.out.len; have := HTN.out; simp at *; omega)] at hc3
             have hz3 := owns_frozen (by have := HO.out.row; simp only [List.length_append, List.length_singleton] at this; rw [← HTN.out] at this; exact this) (tn * 2 + 1)
             have hlast := HO.out.own t0.length (by simp)
             rw [getD_last _ _ _ rfl, getD_last _ _ _ (show t0.length = vs0.length by have := HO.out.len; simp at this; omega)] at hlast
             have hYl : mm = Y.length := by
              obtain ⟨_, _, hv⟩ := hlast.shape
              simp only [Value.slice.injEq] at hv
              exact hv.2.1
             have hfl : ¬ g = gl := by
              intro e
              have := HO.out.far t0.length gl (by simp) (by rw [getD_last _ _ _ (show t0.length = vs0.length by have := HO.out.len; simp at this; omega)]; rfl)
              exact this (by rw [e]; rfl)
             have hgl : gl < wb.heap.size := (hlast.lt gl rfl).2
             have hgB : w.heap.size ≤ gl := (hlast.lt gl rfl).1
             have hgg : g < wb.heap.size := (HO.out.row.lt g rfl).2
             have hgB' : w.heap.size ≤ g := (HO.out.row.lt g rfl).1
             have hmc : mm ≤ cl := by
              have := hlast
              unfold OwnS at this
              rw [← hYl] at this
              exact (row_of_owns this).2.1
             have hBw : w.heap.size ≤ wb.heap.size := by omega
             have hm63 : mm + 1 ≤ maxLen := by unfold maxLen; omega
             have HYL := hid' (And.intro hYl hlast)
             have HZ3 := hid' hz3
             clear hYl hlast hz3
             have sS := hid' (fun (V : World) (K : ∀ b, b < wb.heap.size → ¬ b = gl → V.heap[b]? = wb.heap[b]?) => (show V.cell? ⟨g, tn * 2 + 1, none⟩ = some (.slice (some ⟨gl, 0, none⟩) mm cl) ∧ V.cell? ⟨gw, 0, none⟩ = some (.string t0s) from ⟨(World.cell?_of_block (a := ⟨g, tn * 2 + 1, none⟩) (K g hgg hfl)).trans hc3, (World.cell?_of_block (a := ⟨gw, 0, none⟩) (K gw hgwl hgwn)).trans HC0.out⟩))
             have KT : ∀ b, b < wb.heap.size → ¬ b = gl → wb.drew.heap[b]? = wb.heap[b]? := fun _ _ _ => rfl
             have KB : Kept w wb.drew := HKB.out.drew
             go_upto_region 24 with fail
             refine region_z 19 (S := fun w' => w'.cell? ⟨g, tn * 2 + 1, none⟩ = some (.slice (some ⟨gl, 0, none⟩) mm cl) ∧ w'.cell? ⟨gw, 0, none⟩ = some (.string t0s)) (by kernel_rfl) (sS.out _ KT) (fun hHeld => ?_)
             generalize hwd : wb.drew = wbd at KT KB hHeld ⊢
             have HWDS := hid' (show wbd.heap.size = wb.heap.size by rw [← hwd]; rfl)
             have hOd : OwnS w.heap.size wbd (.slice (some ⟨gl, 0, none⟩) mm cl) Y := by rw [← hwd]; exact HYL.out.2
             have HWB := hid' (show ∀ b, b < wb.heap.size → wbd.heap[b]? = wb.heap[b]? from fun b _ => by rw [← hwd]; rfl)
             refine anyZ_take (i := 0) (v := ?vc1) rfl (by kernel_rfl) (by kernel_rfl) (by kernel_rfl) (by kernel_rfl) (fun _ _ _ h => h) (Or.inl ⟨by rfl, ?yc1⟩) hHeld ?rc1
             case yc1 =>
              intro w' hSw
              obtain ⟨hSw0, hSw1⟩ := hSw
              go_simp
              with_reducible rfl
             case rc1 =>
             refine anyZ_take (i := 1) (v := ?vc2) rfl (by kernel_rfl) (by kernel_rfl) (by kernel_rfl) (by kernel_rfl) (fun _ _ _ h => h) (Or.inl ⟨by rfl, ?yc2⟩) hHeld ?rc2
             case yc2 =>
              intro w' hSw
              obtain ⟨hSw0, hSw1⟩ := hSw
              go_simp
              with_reducible rfl
             case rc2 =>
             refine anyZ_take (i := 2) (v := ?vc3) rfl (by kernel_rfl) (by kernel_rfl) (by kernel_rfl) (by kernel_rfl) (fun _ _ _ h => h) (Or.inl ⟨by rfl, ?yc3⟩) hHeld ?rc3
             case yc3 =>
              intro w' hSw
              obtain ⟨hSw0, hSw1⟩ := hSw
              go_simp
              with_reducible rfl
             case rc3 =>
             refine anyZ_take (i := 3) (v := ?vc4) rfl (by kernel_rfl) (by kernel_rfl) (by kernel_rfl) (by kernel_rfl) (fun _ _ _ h => h) (Or.inl ⟨by rfl, ?yc4⟩) hHeld ?rc4
             case yc4 =>
              intro w' hSw
              obtain ⟨hSw0, hSw1⟩ := hSw
              go_simp
              with_reducible rfl
             case rc4 =>
             refine anyZ_take (i := 4) (v := ?vc5) rfl (by kernel_rfl) (by kernel_rfl) (by kernel_rfl) (by kernel_rfl) (fun _ _ _ h => h) (Or.inl ⟨by rfl, ?yc5⟩) hHeld ?rc5
             case yc5 =>
              intro w' hSw
              obtain ⟨hSw0, hSw1⟩ := hSw
              go_simp
              with_reducible rfl
             case rc5 =>
             refine anyZ_take (i := 5) (v := ?vc6) rfl (by kernel_rfl) (by kernel_rfl) (by kernel_rfl) (by kernel_rfl) (fun _ _ _ h => h) (Or.inl ⟨by rfl, ?yc6⟩) hHeld ?rc6
             case yc6 =>
              intro w' hSw
              obtain ⟨hSw0, hSw1⟩ := hSw
              go_simp
              with_reducible rfl
             case rc6 =>
             refine anyZ_take (i := 6) (v := ?vc7) rfl (by kernel_rfl) (by kernel_rfl) (by kernel_rfl) (by kernel_rfl) (fun _ _ _ h => h) (Or.inl ⟨by rfl, ?yc7⟩) hHeld ?rc7
             case yc7 =>
              intro w' hSw
              obtain ⟨hSw0, hSw1⟩ := hSw
              go_simp
              with_reducible rfl
             case rc7 =>
             refine anyZ_take (i := 7) (v := ?vc8) rfl (by kernel_rfl) (by kernel_rfl) (by kernel_rfl) (by kernel_rfl) (fun _ _ _ h => h) (Or.inl ⟨by rfl, ?yc8⟩) hHeld ?rc8
             case yc8 =>
              intro w' hSw
              obtain ⟨hSw0, hSw1⟩ := hSw
              go_simp
              with_reducible rfl
             case rc8 =>
             refine anyZ_take (i := 8) (v := ?vc9) rfl (by kernel_rfl) (by kernel_rfl) (by kernel_rfl) (by kernel_rfl) (fun _ _ _ h => h) (Or.inl ⟨by rfl, ?yc9⟩) hHeld ?rc9
             case yc9 =>
              intro w' hSw
              obtain ⟨hSw0, hSw1⟩ := hSw
              go_simp
              with_reducible rfl
             case rc9 =>
             refine anyZ_take (i := 9) (v := ?vc10) rfl (by kernel_rfl) (by kernel_rfl) (by kernel_rfl) (by kernel_rfl) (fun _ _ _ h => h) (Or.inl ⟨by rfl, ?yc10⟩) hHeld ?rc10
             case yc10 =>
              intro w' hSw
              obtain ⟨hSw0, hSw1⟩ := hSw
              go_simp
              with_reducible rfl
             case rc10 =>
             refine anyZ_take (i := 10) (v := ?vc11) rfl (by kernel_rfl) (by kernel_rfl) (by kernel_rfl) (by kernel_rfl) (fun _ _ _ h => h) (Or.inl ⟨by rfl, ?yc11⟩) hHeld ?rc11
             case yc11 =>
              intro w' hSw
              obtain ⟨hSw0, hSw1⟩ := hSw
              go_simp
              with_reducible rfl
             case rc11 =>
             refine anyZ_take (i := 11) (v := ?vc12) rfl (by kernel_rfl) (by kernel_rfl) (by kernel_rfl) (by kernel_rfl) (fun _ _ _ h => h) (Or.inl ⟨by rfl, ?yc12⟩) hHeld ?rc12
             case yc12 =>
              intro w' hSw
              obtain ⟨hSw0, hSw1⟩ := hSw
              go_simp
              with_reducible rfl
             case rc12 =>
             refine anyZ_take (i := 12) (v := ?vc13) rfl (by kernel_rfl) (by kernel_rfl) (by kernel_rfl) (by kernel_rfl) (fun _ _ _ h => h) (Or.inl ⟨by rfl, ?yc13⟩) hHeld ?rc13
             case yc13 =>
              intro w' hSw
              obtain ⟨hSw0, hSw1⟩ := hSw
              go_simp
              with_reducible rfl
             case rc13 =>
             refine anyZ_take (i := 13) (v := ?vc14) rfl (by kernel_rfl) (by kernel_rfl) (by kernel_rfl) (by kernel_rfl) (fun _ _ _ h => h) (Or.inl ⟨by rfl, ?yc14⟩) hHeld ?rc14
             case yc14 =>
              intro w' hSw
              obtain ⟨hSw0, hSw1⟩ := hSw
              go_simp
              with_reducible rfl
             case rc14 =>
             refine anyZ_take (i := 14) (v := ?vc15) rfl (by kernel_rfl) (by kernel_rfl) (by kernel_rfl) (by kernel_rfl) (fun _ _ _ h => h) (Or.inl ⟨by rfl, ?yc15⟩) hHeld ?rc15
             case yc15 =>
              intro w' hSw
              obtain ⟨hSw0, hSw1⟩ := hSw
              go_simp
              with_reducible rfl
             case rc15 =>
             refine anyZ_ready (rs := [15]) (by kernel_rfl) (by simp) ?_
             refine AllZ.cons rfl (fun K hK => ?_) AllZ.nil
             go_simp
             have KT : ∀ b, b < wb.heap.size → ¬ b = gl → (wbd.alloc (.cells #[.string (t0s.extract 1 t0s.size)] 9)).heap[b]? = wb.heap[b]? := fun b hb hne => (((Kept.refl wbd).alloc _).block b (by have := HWDS.out; omega)).trans (KT b hb hne)
             refine hK.out _ _ (sS.out _ KT) (fun hHeld => ?_)
             clear hK K
             have hOd := hOd.kept ((Kept.refl wbd).alloc (.cells #[.string (t0s.extract 1 t0s.size)] 9))
             have hnw := cell_new wbd (.string (t0s.extract 1 t0s.size)) 9
             have KB := KB.alloc (.cells #[.string (t0s.extract 1 t0s.size)] 9)
             have hsa := hid' (show (wbd.alloc (.cells #[.string (t0s.extract 1 t0s.size)] 9)).heap.size = wb.heap.size + 1 by rw [World.size_alloc, HWDS.out])
             obtain ⟨bn, hbn⟩ : ∃ bn, bn = wbd.heap.size := ⟨_, rfl⟩
             rw [← hbn] at hnw ⊢
             have HWN := hid' (show ∀ b, b < wb.heap.size → (wbd.alloc (.cells #[.string (t0s.extract 1 t0s.size)] 9)).heap[b]? = wb.heap[b]? from fun b hb => (((Kept.refl wbd).alloc _).block b (by have := HWDS.out; omega)).trans (HWB.out b hb))
             have hOd2 : (wbd.alloc (.cells #[.string (t0s.extract 1 t0s.size)] 9)).ownsRow w.heap.size 9 1 (.slice (some ⟨gl, 0, none⟩) mm cl) mm (strs Y) := by
              have := hOd
              unfold OwnS at this
              rw [← HYL.out.1] at this
              exact this
             generalize wbd.alloc (.cells #[.string (t0s.extract 1 t0s.size)] 9) = wn at KT hHeld hOd hnw KB hsa HWN hOd2 ⊢
             clear hbn hOd
             have HOd := hid' hOd2
             clear hOd2
             refine anyZ_ready (rs := [16]) (by kernel_rfl) (by simp) ?_
             refine AllZ.cons rfl (fun K hK => ?_) AllZ.nil
             refine step_app rfl (.tmp 106) (.tmp 111) 30 rfl w.heap.size 9 i0 (.string ByteArray.empty) 1 16 und_strs hi0 hz0 hz1 hz2 rfl (by decide) gl mm cl (strs Y) rfl HOd.out hmc (some ⟨bn, 0, none⟩) 1 1 [.string (t0s.extract 1 t0s.size)] rfl rfl (fun _ => ⟨⟨bn, 0, none⟩, rfl, hnw⟩) (fun u hu => by simp at hu; subst hu; rfl) hm63 (by omega) (by have := hsa.out; omega) ?_
             intro gl' cl' w5 hown5 hg5 hgl5
             have KT : ∀ b, b < wb.heap.size → ¬ b = gl → w5.heap[b]? = wb.heap[b]? := fun b hb hne => (hg5.block b (by have := hsa.out; omega) (fun e => hne (by simpa using e))).trans (KT b hb hne)
             refine hK.out _ _ (sS.out _ KT) (fun hHeld => ?_)
             clear hK K
             refine anyZ_ready (rs := [17]) (by kernel_rfl) (by simp) ?_
             refine AllZ.cons rfl (fun K hK => ?_) AllZ.nil
             go_simp
             refine hK.out _ _ (sS.out _ KT) (fun hHeld => ?_)
             clear hK K
             refine anyZ_take (i := 18) (v := ?vc16) rfl (by kernel_rfl) (by kernel_rfl) (by kernel_rfl) (by kernel_rfl) (fun _ _ _ h => h) (Or.inl ⟨by rfl, ?yc16⟩) hHeld ?rc16
             case yc16 =>
              intro w' hSw
              obtain ⟨hSw0, hSw1⟩ := hSw
              go_simp
              with_reducible rfl
             case rc16 =>
             have hz5 : w5.frozen? ⟨g, tn * 2 + 1, none⟩ = false := (World.frozen?_of_block (a := ⟨g, tn * 2 + 1, none⟩) (KT g hgg hfl)).trans HZ3.out
             have hHeld := hHeld.1
             refine anyZ_ready (rs := [19]) (by kernel_rfl) (by simp) ?_
             refine AllZ.last rfl (fun K hK => ?_)
             go_simp
             refine hK.out _ _ ?_
             clear hK K
             refine anyZ_done (by kernel_rfl) ?_ _
             have hO5 : Kept w (w5.setCell ⟨g, tn * 2 + 1, none⟩ (.slice (some ⟨gl', 0, none⟩) (mm + 1) cl')) ∧ OwnL w.heap.size (w5.setCell ⟨g, tn * 2 + 1, none⟩ (.slice (some ⟨gl', 0, none⟩) (mm + 1) cl')) (.slice (some ⟨g, 0, none⟩) (tn + 1) tc) (t0 ++ [(ya, Y ++ [x.tail])]) (vs0 ++ [.slice (some ⟨gl', 0, none⟩) (mm + 1) cl']) := by
              refine ⟨(Below.grown KB hg5 (by have := hsa.out; omega) (fun i hi => by simp only [Option.some.injEq] at hi; omega)).setCell (p := ⟨g, tn * 2 + 1, none⟩) hgB' _, ?_⟩
              have hO := HO.out
              have hOn : OwnL w.heap.size wn (.slice (some ⟨g, 0, none⟩) (tn + 1) tc) (t0 ++ [(ya, Y)]) (vs0 ++ [.slice (some ⟨gl, 0, none⟩) mm cl]) := hO.blocks HWN.out
              rw [HTN.out] at hOn ⊢
              have hw5 : OwnS w.heap.size w5 (.slice (some ⟨gl', 0, none⟩) (mm + 1) cl') (Y ++ [x.tail]) := by
               unfold OwnS
               rw [strs_app, List.length_append, ← HYL.out.1, show strs [x.tail] = [.string (t0s.extract 1 t0s.size)] by show [Value.string (bs x.tail)] = _; rw [HT0.out]]
               exact hown5
              refine OwnL.last (y := (ya, Y)) rfl hOn hw5 (by simp) hg5 (fun b hb => ?_)
              have e : gl' = b := by simpa [Value.ownBlock] using hb
              rcases hgl5 with h | h
              ·
               left; rw [← e, ← h]; rfl
              ·
               right; have := hsa.out; omega
             have hcj5 : ∀ i, i < xn → (w5.setCell ⟨g, tn * 2 + 1, none⟩ (.slice (some ⟨gl', 0, none⟩) (mm + 1) cl')).cell? ⟨gw, 1 + i, none⟩ = some (.string (bs (xs.getD i []))) := fun i hi => (World.cell?_of_block (a := ⟨gw, 1 + i, none⟩) ((Deep.blk_setCell_other _ _ _ _ hgwg).trans (KT gw hgwl hgwn))).trans (HCJ.out i hi)
             generalize w5.setCell ⟨g, tn * 2 + 1, none⟩ (.slice (some ⟨gl', 0, none⟩) (mm + 1) cl') = wb' at hO5 hcj5 ⊢
             have HKB := hid' hO5.1
             have HO := hid' hO5.2
             have HCJ := hid' hcj5
             have HTK := hid' (show tk (t0 ++ [(ya, Y)]) (n + 1) p = if 64 < ((Y ++ [x.tail]) ++ xs).length then Except.error 7 else Except.ok (t0 ++ [(ya, (Y ++ [x.tail]) ++ xs)]) by
              rw [HTK0.out, show noPlus (x :: xs) = x.tail :: xs from if_neg htl, List.append_assoc]; rfl)
             have hYn : Y ++ [x.tail] ≠ [] := by simp
             clear hHeld KT hown5 hg5 hgl5 hz5 sS hc3 HZ3 HYL hO5 hcj5 HOd hnw KB hsa hwd HWDS HWB HWN hBw hm63 hmc hgB hgl hgg hgB' hfl
             have hmm : mm + 1 ≤ 65 := by omega
             obtain ⟨Y', hY'⟩ : ∃ Y', Y' = Y ++ [x.tail] := ⟨_, rfl⟩
             rw [← hY'] at HO HTK hYn
             obtain ⟨mm', hmm'⟩ : ∃ m', m' = mm + 1 := ⟨_, rfl⟩
             rw [← hmm'] at HO hmm ⊢
             have HYN := hid' hYn
             clear hY' hmm' hYn
             by_cases hcw1 : cw = 1
             ·
              subst hcw1
              have hc3 := owns_cell (by have := HO.out.row; simp only [List.length_append, List.length_singleton] at this; rw [← HTN.out] at this; exact this) (lnc_at (t0 ++ [(ya, Y')]) (vs0 ++ [.slice (some ⟨gl', 0, none⟩) mm' cl']) tn (by simpa using HO.out.len) (by simp; have := HTN.out; omega)).2
              rw [getD_last _ _ _ (show tn = vs0.length by have := HO.out.len; have := HTN.out; simp at *; omega)] at hc3
              have hz3 := owns_frozen (by have := HO.out.row; simp only [List.length_append, List.length_singleton] at this; rw [← HTN.out] at this; exact this) (tn * 2 + 1)
              have hlast := HO.out.own t0.length (by simp)
              rw [getD_last _ _ _ rfl, getD_last _ _ _ (show t0.length = vs0.length by have := HO.out.len; simp at this; omega)] at hlast
              have hYl : mm' = Y'.length := by
               obtain ⟨_, _, hv⟩ := hlast.shape
               simp only [Value.slice.injEq] at hv
               exact hv.2.1
              have hfl : ¬ g = gl' := by
               intro e
               have := HO.out.far t0.length gl' (by simp) (by rw [getD_last _ _ _ (show t0.length = vs0.length by have := HO.out.len; simp at this; omega)]; rfl)
               exact this (by rw [e]; rfl)
              have hgl : gl' < wb'.heap.size := (hlast.lt gl' rfl).2
              have hgB : w.heap.size ≤ gl' := (hlast.lt gl' rfl).1
              have hgg : g < wb'.heap.size := (HO.out.row.lt g rfl).2
              have hgB' : w.heap.size ≤ g := (HO.out.row.lt g rfl).1
              have hmc : mm' ≤ cl' := by
               have := hlast
               unfold OwnS at this
               rw [← hYl] at this
               exact (row_of_owns this).2.1
              have hBw : w.heap.size ≤ wb'.heap.size := by omega
              have hm63 : mm' + xn ≤ maxLen := by unfold maxLen; omega
              have HYL := hid' (And.intro hYl hlast)
              have HZ3 := hid' hz3
              clear hYl hlast hz3
              have sS := hid' (fun (V : World) (K : ∀ b, b < wb'.heap.size → ¬ b = gl' → V.heap[b]? = wb'.heap[b]?) => (show V.cell? ⟨g, tn * 2 + 1, none⟩ = some (.slice (some ⟨gl', 0, none⟩) mm' cl') ∧ True from ⟨(World.cell?_of_block (a := ⟨g, tn * 2 + 1, none⟩) (K g hgg hfl)).trans hc3, trivial⟩))
              have KT : ∀ b, b < wb'.heap.size → ¬ b = gl' → wb'.drew.heap[b]? = wb'.heap[b]? := fun _ _ _ => rfl
              go_upto_region 25 with fail
              refine region_z 16 (S := fun w' => w'.cell? ⟨g, tn * 2 + 1, none⟩ = some (.slice (some ⟨gl', 0, none⟩) mm' cl') ∧ True) (by kernel_rfl) (sS.out _ KT) (fun hHeld => ?_)
              have hOd : wb'.drew.ownsRow w.heap.size 9 1 (.slice (some ⟨gl', 0, none⟩) mm' cl') mm' (strs Y') := by
               have := HYL.out.2
               unfold OwnS at this
               rw [← HYL.out.1] at this
               exact this
              have hcjd : ∀ i, i < xn → wb'.drew.cell? ⟨gw, 1 + i, none⟩ = some (.string (bs (xs.getD i []))) := HCJ.out
              have KB : Kept w wb'.drew := HKB.out.drew
              generalize hwd : wb'.drew = wbd at KT KB hHeld hOd hcjd ⊢
              have HWDS := hid' (show wbd.heap.size = wb'.heap.size by rw [← hwd]; rfl)
              have HWB := hid' (show ∀ b, b < wb'.heap.size → wbd.heap[b]? = wb'.heap[b]? from fun b _ => by rw [← hwd]; rfl)
              have hBd : w.heap.size ≤ wbd.heap.size := by have := HWDS.out; omega
              clear hwd
              have HOd := hid' hOd
              clear hOd
              refine anyZ_take (i := 0) (v := ?vap17) rfl (by kernel_rfl) (by kernel_rfl) (by kernel_rfl) (by kernel_rfl) (fun _ _ _ h => h) (Or.inl ⟨by rfl, ?yap17⟩) hHeld ?rap17
              case yap17 =>
               intro w' hSw
               obtain ⟨hSw0, hSw1⟩ := hSw
               go_simp
               with_reducible rfl
              case rap17 =>
              refine anyZ_take (i := 1) (v := ?vap18) rfl (by kernel_rfl) (by kernel_rfl) (by kernel_rfl) (by kernel_rfl) (fun _ _ _ h => h) (Or.inl ⟨by rfl, ?yap18⟩) hHeld ?rap18
              case yap18 =>
               intro w' hSw
               obtain ⟨hSw0, hSw1⟩ := hSw
               go_simp
               with_reducible rfl
              case rap18 =>
              refine anyZ_take (i := 2) (v := ?vap19) rfl (by kernel_rfl) (by kernel_rfl) (by kernel_rfl) (by kernel_rfl) (fun _ _ _ h => h) (Or.inl ⟨by rfl, ?yap19⟩) hHeld ?rap19
              case yap19 =>
               intro w' hSw
               obtain ⟨hSw0, hSw1⟩ := hSw
               go_simp
               with_reducible rfl
              case rap19 =>
              refine anyZ_take (i := 3) (v := ?vap20) rfl (by kernel_rfl) (by kernel_rfl) (by kernel_rfl) (by kernel_rfl) (fun _ _ _ h => h) (Or.inl ⟨by rfl, ?yap20⟩) hHeld ?rap20
              case yap20 =>
               intro w' hSw
               obtain ⟨hSw0, hSw1⟩ := hSw
               go_simp
               with_reducible rfl
              case rap20 =>
              refine anyZ_take (i := 4) (v := ?vap21) rfl (by kernel_rfl) (by kernel_rfl) (by kernel_rfl) (by kernel_rfl) (fun _ _ _ h => h) (Or.inl ⟨by rfl, ?yap21⟩) hHeld ?rap21
              case yap21 =>
               intro w' hSw
               obtain ⟨hSw0, hSw1⟩ := hSw
               go_simp
               with_reducible rfl
              case rap21 =>
              refine anyZ_take (i := 5) (v := ?vap22) rfl (by kernel_rfl) (by kernel_rfl) (by kernel_rfl) (by kernel_rfl) (fun _ _ _ h => h) (Or.inl ⟨by rfl, ?yap22⟩) hHeld ?rap22
              case yap22 =>
               intro w' hSw
               obtain ⟨hSw0, hSw1⟩ := hSw
               go_simp
               with_reducible rfl
              case rap22 =>
              refine anyZ_take (i := 6) (v := ?vap23) rfl (by kernel_rfl) (by kernel_rfl) (by kernel_rfl) (by kernel_rfl) (fun _ _ _ h => h) (Or.inl ⟨by rfl, ?yap23⟩) hHeld ?rap23
              case yap23 =>
               intro w' hSw
               obtain ⟨hSw0, hSw1⟩ := hSw
               go_simp
               with_reducible rfl
              case rap23 =>
              refine anyZ_take (i := 7) (v := ?vap24) rfl (by kernel_rfl) (by kernel_rfl) (by kernel_rfl) (by kernel_rfl) (fun _ _ _ h => h) (Or.inl ⟨by rfl, ?yap24⟩) hHeld ?rap24
              case yap24 =>
               intro w' hSw
               obtain ⟨hSw0, hSw1⟩ := hSw
               go_simp
               with_reducible rfl
              case rap24 =>
              refine anyZ_take (i := 8) (v := ?vap25) rfl (by kernel_rfl) (by kernel_rfl) (by kernel_rfl) (by kernel_rfl) (fun _ _ _ h => h) (Or.inl ⟨by rfl, ?yap25⟩) hHeld ?rap25
              case yap25 =>
               intro w' hSw
               obtain ⟨hSw0, hSw1⟩ := hSw
               go_simp
               with_reducible rfl
              case rap25 =>
              refine anyZ_take (i := 9) (v := ?vap26) rfl (by kernel_rfl) (by kernel_rfl) (by kernel_rfl) (by kernel_rfl) (fun _ _ _ h => h) (Or.inl ⟨by rfl, ?yap26⟩) hHeld ?rap26
              case yap26 =>
               intro w' hSw
               obtain ⟨hSw0, hSw1⟩ := hSw
               go_simp
               with_reducible rfl
              case rap26 =>
              refine anyZ_take (i := 10) (v := ?vap27) rfl (by kernel_rfl) (by kernel_rfl) (by kernel_rfl) (by kernel_rfl) (fun _ _ _ h => h) (Or.inl ⟨by rfl, ?yap27⟩) hHeld ?rap27
              case yap27 =>
               intro w' hSw
               obtain ⟨hSw0, hSw1⟩ := hSw
               go_simp
               with_reducible rfl
              case rap27 =>
              refine anyZ_take (i := 11) (v := ?vap28) rfl (by kernel_rfl) (by kernel_rfl) (by kernel_rfl) (by kernel_rfl) (fun _ _ _ h => h) (Or.inl ⟨by rfl, ?yap28⟩) hHeld ?rap28
              case yap28 =>
               intro w' hSw
               obtain ⟨hSw0, hSw1⟩ := hSw
               go_simp
               with_reducible rfl
              case rap28 =>
              refine anyZ_ready (rs := [12]) (by kernel_rfl) (by simp) ?_
              refine AllZ.cons rfl (fun K hK => ?_) AllZ.nil
              go_simp
              refine hK.out _ _ (sS.out _ KT) (fun hHeld => ?_)
              clear hK K
              refine anyZ_ready (rs := [13]) (by kernel_rfl) (by simp) ?_
              refine AllZ.cons rfl (fun K hK => ?_) AllZ.nil
              refine step_app rfl (.tmp 125) (.tmp 127) 30 rfl w.heap.size 9 i0 (.string ByteArray.empty) 1 16 und_strs hi0 hz0 hz1 hz2 rfl (by decide) gl' mm' cl' (strs Y') rfl HOd.out hmc (some ⟨gw, 0, none⟩) xn 0 (strs xs) (by rw [show xn = 0 by omega] <;> rfl) (by rw [strs_len, ← HXN.out]) (fun h0 => ?hnewsap) (strs_one _) hm63 (by omega) hBd ?_
              case hnewsap =>
               omega
              intro gm' cm' w5 hown5 hg5 hgl5
              have KT : ∀ b, b < wb'.heap.size → ¬ b = gl' → w5.heap[b]? = wb'.heap[b]? := fun b hb hne => (hg5.block b (by have := HWDS.out; omega) (fun e => hne (by simpa using e))).trans (HWB.out b hb)
              refine hK.out _ _ (sS.out _ KT) (fun hHeld => ?_)
              clear hK K
              refine anyZ_ready (rs := [14]) (by kernel_rfl) (by simp) ?_
              refine AllZ.cons rfl (fun K hK => ?_) AllZ.nil
              go_simp
              refine hK.out _ _ (sS.out _ KT) (fun hHeld => ?_)
              clear hK K
              refine anyZ_take (i := 15) (v := ?vap29) rfl (by kernel_rfl) (by kernel_rfl) (by kernel_rfl) (by kernel_rfl) (fun _ _ _ h => h) (Or.inl ⟨by rfl, ?yap29⟩) hHeld ?rap29
              case yap29 =>
               intro w' hSw
               obtain ⟨hSw0, hSw1⟩ := hSw
               go_simp
               with_reducible rfl
              case rap29 =>
              have hz5 : w5.frozen? ⟨g, tn * 2 + 1, none⟩ = false := (World.frozen?_of_block (a := ⟨g, tn * 2 + 1, none⟩) (KT g hgg hfl)).trans HZ3.out
              have hHeld := hHeld.1
              refine anyZ_ready (rs := [16]) (by kernel_rfl) (by simp) ?_
              refine AllZ.last rfl (fun K hK => ?_)
              go_simp
              refine hK.out _ _ ?_
              clear hK K
              refine anyZ_done (by kernel_rfl) ?_ _
              have HN : Hid (Kept w (w5.setCell ⟨g, tn * 2 + 1, none⟩ (.slice (some ⟨gm', 0, none⟩) (mm' + xn) cm')) ∧ OwnL w.heap.size (w5.setCell ⟨g, tn * 2 + 1, none⟩ (.slice (some ⟨gm', 0, none⟩) (mm' + xn) cm')) (.slice (some ⟨g, 0, none⟩) (tn + 1) tc) (t0 ++ [(ya, Y' ++ xs)]) (vs0 ++ [.slice (some ⟨gm', 0, none⟩) (mm' + xn) cm'])) := by
               refine ⟨(Below.grown KB hg5 hBd (fun j hj => by simp only [Option.some.injEq] at hj; omega)).setCell (p := ⟨g, tn * 2 + 1, none⟩) hgB' _, ?_⟩
               have hO := HO.out.blocks HWB.out
               rw [HTN.out] at hO ⊢
               have hw5 : OwnS w.heap.size w5 (.slice (some ⟨gm', 0, none⟩) (mm' + xn) cm') (Y' ++ xs) := by
                unfold OwnS
                rw [strs_app, List.length_append, ← HYL.out.1, ← HXN.out]
                exact hown5
               refine OwnL.last (y := (ya, Y')) rfl hO hw5 (by simp [HYN.out]) hg5 (fun b hb => ?_)
               have e : gm' = b := by simpa [Value.ownBlock] using hb
               rcases hgl5 with h | h
               ·
                left; rw [← e, ← h]; rfl
               ·
                right; omega
              have hcn : (w5.setCell ⟨g, tn * 2 + 1, none⟩ (.slice (some ⟨gm', 0, none⟩) (mm' + xn) cm')).cell? ⟨g, tn * 2 + 1, none⟩ = some (.slice (some ⟨gm', 0, none⟩) (mm' + xn) cm') := World.cell?_setCell_same _ _ _ hHeld
              generalize w5.setCell ⟨g, tn * 2 + 1, none⟩ (.slice (some ⟨gm', 0, none⟩) (mm' + xn) cm') = W6 at HN hcn ⊢
              have HKM := hid' (show (Y' ++ xs).length = mm' + xn by rw [List.length_append, ← HYL.out.1, ← HXN.out])
              clear hHeld KT hown5 hg5 hgl5 hz5 sS hc3 hcjd KB HWDS HWB hBd HOd hcw
              by_cases h6 : 64 < mm' + xn
              ·
               have h6' : (64 : Int) < (mm' : Int) + (xn : Int) := by omega
               have HR := hid' (show R = ([], n + 1, 7) by
                rw [HRR.out, go, HTK.out, HKM.out, if_pos h6])
               go_wp2_with fail
               go_ret3
               refine ⟨HN.out.1, ?_⟩
               rw [HR.out]
               exact ⟨_, [], rfl, OwnL.nil _ _⟩
              ·
               have h6' : ¬ (64 : Int) < (mm' : Int) + (xn : Int) := by omega
               have HI : Hid (LiI w W6 s.data.toList (.slice (some ⟨g, 0, none⟩) (tn + 1) tc) (n + 1) (j + 1) (j + 1) (t0 ++ [(ya, Y' ++ xs)]) (vs0 ++ [.slice (some ⟨gm', 0, none⟩) (mm' + xn) cm'])) := LiI.next hle HGO.out (by rw [HTK.out, HKM.out, if_neg h6]) HN.out.1 HN.out.2 HOK.out.1 HOK.out.2
               go_wp2_with fail
               go_roundw
               case rel => exact ⟨j + 1, n + 1, j + 1, _, _, by omega, Nat.le_refl _, by omega, fun _ => by omega, by go_num, by go_num, by go_num, HI.out⟩
               case measure => show s.size + 1 - ((j : Int) + 1).toNat < s.size + 1 - (j : Int).toNat; omega
             ·
              have hcw2 : 1 < cw := by omega
              have hc3 := owns_cell (by have := HO.out.row; simp only [List.length_append, List.length_singleton] at this; rw [← HTN.out] at this; exact this) (lnc_at (t0 ++ [(ya, Y')]) (vs0 ++ [.slice (some ⟨gl', 0, none⟩) mm' cl']) tn (by simpa using HO.out.len) (by simp; have := HTN.out; omega)).2
              rw [getD_last _ _ _ (show tn = vs0.length by have := HO.out.len; have := HTN.out; simp at *; omega)] at hc3
              have hz3 := owns_frozen (by have := HO.out.row; simp only [List.length_append, List.length_singleton] at this; rw [← HTN.out] at this; exact this) (tn * 2 + 1)
              have hlast := HO.out.own t0.length (by simp)
              rw [getD_last _ _ _ rfl, getD_last _ _ _ (show t0.length = vs0.length by have := HO.out.len; simp at this; omega)] at hlast
              have hYl : mm' = Y'.length := by
               obtain ⟨_, _, hv⟩ := hlast.shape
               simp only [Value.slice.injEq] at hv
               exact hv.2.1
              have hfl : ¬ g = gl' := by
               intro e
               have := HO.out.far t0.length gl' (by simp) (by rw [getD_last _ _ _ (show t0.length = vs0.length by have := HO.out.len; simp at this; omega)]; rfl)
               exact this (by rw [e]; rfl)
              have hgl : gl' < wb'.heap.size := (hlast.lt gl' rfl).2
              have hgB : w.heap.size ≤ gl' := (hlast.lt gl' rfl).1
              have hgg : g < wb'.heap.size := (HO.out.row.lt g rfl).2
              have hgB' : w.heap.size ≤ g := (HO.out.row.lt g rfl).1
              have hmc : mm' ≤ cl' := by
               have := hlast
               unfold OwnS at this
               rw [← hYl] at this
               exact (row_of_owns this).2.1
              have hBw : w.heap.size ≤ wb'.heap.size := by omega
              have hm63 : mm' + xn ≤ maxLen := by unfold maxLen; omega
              have HYL := hid' (And.intro hYl hlast)
              have HZ3 := hid' hz3
              clear hYl hlast hz3
              have sS := hid' (fun (V : World) (K : ∀ b, b < wb'.heap.size → ¬ b = gl' → V.heap[b]? = wb'.heap[b]?) => (show V.cell? ⟨g, tn * 2 + 1, none⟩ = some (.slice (some ⟨gl', 0, none⟩) mm' cl') ∧ True from ⟨(World.cell?_of_block (a := ⟨g, tn * 2 + 1, none⟩) (K g hgg hfl)).trans hc3, trivial⟩))
              have KT : ∀ b, b < wb'.heap.size → ¬ b = gl' → wb'.drew.heap[b]? = wb'.heap[b]? := fun _ _ _ => rfl
              go_upto_region 25 with fail
              refine region_z 16 (S := fun w' => w'.cell? ⟨g, tn * 2 + 1, none⟩ = some (.slice (some ⟨gl', 0, none⟩) mm' cl') ∧ True) (by kernel_rfl) (sS.out _ KT) (fun hHeld => ?_)
              have hOd : wb'.drew.ownsRow w.heap.size 9 1 (.slice (some ⟨gl', 0, none⟩) mm' cl') mm' (strs Y') := by
               have := HYL.out.2
               unfold OwnS at this
               rw [← HYL.out.1] at this
               exact this
              have hcjd : ∀ i, i < xn → wb'.drew.cell? ⟨gw, 1 + i, none⟩ = some (.string (bs (xs.getD i []))) := HCJ.out
              have KB : Kept w wb'.drew := HKB.out.drew
              generalize hwd : wb'.drew = wbd at KT KB hHeld hOd hcjd ⊢
              have HWDS := hid' (show wbd.heap.size = wb'.heap.size by rw [← hwd]; rfl)
              have HWB := hid' (show ∀ b, b < wb'.heap.size → wbd.heap[b]? = wb'.heap[b]? from fun b _ => by rw [← hwd]; rfl)
              have hBd : w.heap.size ≤ wbd.heap.size := by have := HWDS.out; omega
              clear hwd
              have HOd := hid' hOd
              clear hOd
              refine anyZ_take (i := 0) (v := ?vaq30) rfl (by kernel_rfl) (by kernel_rfl) (by kernel_rfl) (by kernel_rfl) (fun _ _ _ h => h) (Or.inl ⟨by rfl, ?yaq30⟩) hHeld ?raq30
              case yaq30 =>
               intro w' hSw
               obtain ⟨hSw0, hSw1⟩ := hSw
               go_simp
               with_reducible rfl
              case raq30 =>
              refine anyZ_take (i := 1) (v := ?vaq31) rfl (by kernel_rfl) (by kernel_rfl) (by kernel_rfl) (by kernel_rfl) (fun _ _ _ h => h) (Or.inl ⟨by rfl, ?yaq31⟩) hHeld ?raq31
              case yaq31 =>
               intro w' hSw
               obtain ⟨hSw0, hSw1⟩ := hSw
               go_simp
               with_reducible rfl
              case raq31 =>
              refine anyZ_take (i := 2) (v := ?vaq32) rfl (by kernel_rfl) (by kernel_rfl) (by kernel_rfl) (by kernel_rfl) (fun _ _ _ h => h) (Or.inl ⟨by rfl, ?yaq32⟩) hHeld ?raq32
              case yaq32 =>
               intro w' hSw
               obtain ⟨hSw0, hSw1⟩ := hSw
               go_simp
               with_reducible rfl
              case raq32 =>
              refine anyZ_take (i := 3) (v := ?vaq33) rfl (by kernel_rfl) (by kernel_rfl) (by kernel_rfl) (by kernel_rfl) (fun _ _ _ h => h) (Or.inl ⟨by rfl, ?yaq33⟩) hHeld ?raq33
              case yaq33 =>
               intro w' hSw
               obtain ⟨hSw0, hSw1⟩ := hSw
               go_simp
               with_reducible rfl
              case raq33 =>
              refine anyZ_take (i := 4) (v := ?vaq34) rfl (by kernel_rfl) (by kernel_rfl) (by kernel_rfl) (by kernel_rfl) (fun _ _ _ h => h) (Or.inl ⟨by rfl, ?yaq34⟩) hHeld ?raq34
              case yaq34 =>
               intro w' hSw
               obtain ⟨hSw0, hSw1⟩ := hSw
               go_simp
               with_reducible rfl
              case raq34 =>
              refine anyZ_take (i := 5) (v := ?vaq35) rfl (by kernel_rfl) (by kernel_rfl) (by kernel_rfl) (by kernel_rfl) (fun _ _ _ h => h) (Or.inl ⟨by rfl, ?yaq35⟩) hHeld ?raq35
              case yaq35 =>
               intro w' hSw
               obtain ⟨hSw0, hSw1⟩ := hSw
               go_simp
               with_reducible rfl
              case raq35 =>
              refine anyZ_take (i := 6) (v := ?vaq36) rfl (by kernel_rfl) (by kernel_rfl) (by kernel_rfl) (by kernel_rfl) (fun _ _ _ h => h) (Or.inl ⟨by rfl, ?yaq36⟩) hHeld ?raq36
              case yaq36 =>
               intro w' hSw
               obtain ⟨hSw0, hSw1⟩ := hSw
               go_simp
               with_reducible rfl
              case raq36 =>
              refine anyZ_take (i := 7) (v := ?vaq37) rfl (by kernel_rfl) (by kernel_rfl) (by kernel_rfl) (by kernel_rfl) (fun _ _ _ h => h) (Or.inl ⟨by rfl, ?yaq37⟩) hHeld ?raq37
              case yaq37 =>
               intro w' hSw
               obtain ⟨hSw0, hSw1⟩ := hSw
               go_simp
               with_reducible rfl
              case raq37 =>
              refine anyZ_take (i := 8) (v := ?vaq38) rfl (by kernel_rfl) (by kernel_rfl) (by kernel_rfl) (by kernel_rfl) (fun _ _ _ h => h) (Or.inl ⟨by rfl, ?yaq38⟩) hHeld ?raq38
              case yaq38 =>
               intro w' hSw
               obtain ⟨hSw0, hSw1⟩ := hSw
               go_simp
               with_reducible rfl
              case raq38 =>
              refine anyZ_take (i := 9) (v := ?vaq39) rfl (by kernel_rfl) (by kernel_rfl) (by kernel_rfl) (by kernel_rfl) (fun _ _ _ h => h) (Or.inl ⟨by rfl, ?yaq39⟩) hHeld ?raq39
              case yaq39 =>
               intro w' hSw
               obtain ⟨hSw0, hSw1⟩ := hSw
               go_simp
               with_reducible rfl
              case raq39 =>
              refine anyZ_take (i := 10) (v := ?vaq40) rfl (by kernel_rfl) (by kernel_rfl) (by kernel_rfl) (by kernel_rfl) (fun _ _ _ h => h) (Or.inl ⟨by rfl, ?yaq40⟩) hHeld ?raq40
              case yaq40 =>
               intro w' hSw
               obtain ⟨hSw0, hSw1⟩ := hSw
               go_simp
               with_reducible rfl
              case raq40 =>
              refine anyZ_take (i := 11) (v := ?vaq41) rfl (by kernel_rfl) (by kernel_rfl) (by kernel_rfl) (by kernel_rfl) (fun _ _ _ h => h) (Or.inl ⟨by rfl, ?yaq41⟩) hHeld ?raq41
              case yaq41 =>
               intro w' hSw
               obtain ⟨hSw0, hSw1⟩ := hSw
               go_simp
               with_reducible rfl
              case raq41 =>
              refine anyZ_ready (rs := [12]) (by kernel_rfl) (by simp) ?_
              refine AllZ.cons rfl (fun K hK => ?_) AllZ.nil
              go_simp
              refine hK.out _ _ (sS.out _ KT) (fun hHeld => ?_)
              clear hK K
              refine anyZ_ready (rs := [13]) (by kernel_rfl) (by simp) ?_
              refine AllZ.cons rfl (fun K hK => ?_) AllZ.nil
              refine step_app rfl (.tmp 125) (.tmp 127) 30 rfl w.heap.size 9 i0 (.string ByteArray.empty) 1 16 und_strs hi0 hz0 hz1 hz2 rfl (by decide) gl' mm' cl' (strs Y') rfl HOd.out hmc _ xn _ (strs xs) rfl (by rw [strs_len, ← HXN.out]) (fun h0 => ?hnewsaq) (strs_one _) hm63 (by omega) hBd ?_
              case hnewsaq =>
               refine ⟨⟨gw, 1, none⟩, rfl, fun i u hu => ?_⟩
               have hj := (List.getElem?_eq_some_iff.1 hu).1
               rw [strs_len, Nat.mul_one, ← HXN.out] at hj
               rw [Addr.add_lit, hcjd i hj]
               rw [strs_at _ i (by rw [← HXN.out]; exact hj)] at hu
               exact hu
              intro gm' cm' w5 hown5 hg5 hgl5
              have KT : ∀ b, b < wb'.heap.size → ¬ b = gl' → w5.heap[b]? = wb'.heap[b]? := fun b hb hne => (hg5.block b (by have := HWDS.out; omega) (fun e => hne (by simpa using e))).trans (HWB.out b hb)
              refine hK.out _ _ (sS.out _ KT) (fun hHeld => ?_)
              clear hK K
              refine anyZ_ready (rs := [14]) (by kernel_rfl) (by simp) ?_
              refine AllZ.cons rfl (fun K hK => ?_) AllZ.nil
              go_simp
              refine hK.out _ _ (sS.out _ KT) (fun hHeld => ?_)
              clear hK K
              refine anyZ_take (i := 15) (v := ?vaq42) rfl (by kernel_rfl) (by kernel_rfl) (by kernel_rfl) (by kernel_rfl) (fun _ _ _ h => h) (Or.inl ⟨by rfl, ?yaq42⟩) hHeld ?raq42
              case yaq42 =>
               intro w' hSw
               obtain ⟨hSw0, hSw1⟩ := hSw
               go_simp
               with_reducible rfl
              case raq42 =>
              have hz5 : w5.frozen? ⟨g, tn * 2 + 1, none⟩ = false := (World.frozen?_of_block (a := ⟨g, tn * 2 + 1, none⟩) (KT g hgg hfl)).trans HZ3.out
              have hHeld := hHeld.1
              refine anyZ_ready (rs := [16]) (by kernel_rfl) (by simp) ?_
              refine AllZ.last rfl (fun K hK => ?_)
              go_simp
              refine hK.out _ _ ?_
              clear hK K
              refine anyZ_done (by kernel_rfl) ?_ _
              have HN : Hid (Kept w (w5.setCell ⟨g, tn * 2 + 1, none⟩ (.slice (some ⟨gm', 0, none⟩) (mm' + xn) cm')) ∧ OwnL w.heap.size (w5.setCell ⟨g, tn * 2 + 1, none⟩ (.slice (some ⟨gm', 0, none⟩) (mm' + xn) cm')) (.slice (some ⟨g, 0, none⟩) (tn + 1) tc) (t0 ++ [(ya, Y' ++ xs)]) (vs0 ++ [.slice (some ⟨gm', 0, none⟩) (mm' + xn) cm'])) := by
               refine ⟨(Below.grown KB hg5 hBd (fun j hj => by simp only [Option.some.injEq] at hj; omega)).setCell (p := ⟨g, tn * 2 + 1, none⟩) hgB' _, ?_⟩
               have hO := HO.out.blocks HWB.out
               rw [HTN.out] at hO ⊢
               have hw5 : OwnS w.heap.size w5 (.slice (some ⟨gm', 0, none⟩) (mm' + xn) cm') (Y' ++ xs) := by
                unfold OwnS
                rw [strs_app, List.length_append, ← HYL.out.1, ← HXN.out]
                exact hown5
               refine OwnL.last (y := (ya, Y')) rfl hO hw5 (by simp [HYN.out]) hg5 (fun b hb => ?_)
               have e : gm' = b := by simpa [Value.ownBlock] using hb
               rcases hgl5 with h | h
               ·
                left; rw [← e, ← h]; rfl
               ·
                right; omega
              have hcn : (w5.setCell ⟨g, tn * 2 + 1, none⟩ (.slice (some ⟨gm', 0, none⟩) (mm' + xn) cm')).cell? ⟨g, tn * 2 + 1, none⟩ = some (.slice (some ⟨gm', 0, none⟩) (mm' + xn) cm') := World.cell?_setCell_same _ _ _ hHeld
              generalize w5.setCell ⟨g, tn * 2 + 1, none⟩ (.slice (some ⟨gm', 0, none⟩) (mm' + xn) cm') = W6 at HN hcn ⊢
              have HKM := hid' (show (Y' ++ xs).length = mm' + xn by rw [List.length_append, ← HYL.out.1, ← HXN.out])
              clear hHeld KT hown5 hg5 hgl5 hz5 sS hc3 hcjd KB HWDS HWB hBd HOd
              by_cases h6 : 64 < mm' + xn
              ·
               have h6' : (64 : Int) < (mm' : Int) + (xn : Int) := by omega
               have HR := hid' (show R = ([], n + 1, 7) by
                rw [HRR.out, go, HTK.out, HKM.out, if_pos h6])
               go_wp2_with fail
               go_ret3
               refine ⟨HN.out.1, ?_⟩
               rw [HR.out]
               exact ⟨_, [], rfl, OwnL.nil _ _⟩
              ·
               have h6' : ¬ (64 : Int) < (mm' : Int) + (xn : Int) := by omega
               have HI : Hid (LiI w W6 s.data.toList (.slice (some ⟨g, 0, none⟩) (tn + 1) tc) (n + 1) (j + 1) (j + 1) (t0 ++ [(ya, Y' ++ xs)]) (vs0 ++ [.slice (some ⟨gm', 0, none⟩) (mm' + xn) cm'])) := LiI.next hle HGO.out (by rw [HTK.out, HKM.out, if_neg h6]) HN.out.1 HN.out.2 HOK.out.1 HOK.out.2
               go_wp2_with fail
               go_roundw
               case rel => exact ⟨j + 1, n + 1, j + 1, _, _, by omega, Nat.le_refl _, by omega, fun _ => by omega, by go_num, by go_num, by go_num, HI.out⟩
               case measure => show s.size + 1 - ((j : Int) + 1).toNat < s.size + 1 - (j : Int).toNat; omega
          ·
           have htk := hbe hkd
           have HTK := hid' htk
           clear htk hno hbe hgo
           cases ws with
           | nil => exact absurd hkd (by decide)
           | cons x xs =>
            obtain ⟨gw, cw, rfl, hcw, _, _, c0, _⟩ := len_out own2
            have hx : 0 < (bs x).size := by rw [bs_size]; exact List.length_pos_iff.2 (hwne x (by simp))
            have i1 := isC_at 42 x hx
            have i2 := isC_at 43 x hx
            rw [kindI] at hkd
            have h42 : isC 42 x = false := by
             by_cases h42 : isC 42 x = true
             ·
              rw [if_pos h42] at hkd; exact absurd hkd (by decide)
             ·
              simpa using h42
            have h43 : isC 43 x = false := by
             by_cases h43 : isC 43 x = true
             ·
              rw [h42, if_neg (by decide), if_pos h43] at hkd; exact absurd hkd (by decide)
             ·
              simpa using h43
            rw [h42] at i1
            rw [h43] at i2
            have i1' : ¬ ((bs x)[0].toNat : Int) = 42 := by simpa using i1.symm
            have i2' : ¬ ((bs x)[0].toNat : Int) = 43 := by simpa using i2.symm
            have i1b : (((bs x)[0].toNat : Int) == 42) = false := by simpa using i1'
            have i2b : (((bs x)[0].toNat : Int) == 43) = false := by simpa using i2'
            have hxz : (0 : Int) < ((bs x).size : Int) := by omega
            have n5 : (0 : Int) < (xs.length : Int) + 1 := by omega
            have n6 : ¬ (xs.length : Int) + 1 = 0 := by omega
            have n7 : ((xs.length : Int) + 1 == 0) = false := by simpa using n6
            have hxl : (x :: xs).length = xs.length + 1 := rfl
            rw [hxl] at HTK hwl
            have HXS := hid' hxl
            clear own2 i1 i2 hkd hxl h42 h43
            obtain ⟨xn, hxn⟩ : ∃ xn, xn = xs.length := ⟨_, rfl⟩
            rw [← hxn] at HTK HXS hwl hcw n5 n6 n7 HW ⊢
            clear hxn
            generalize bs x = t0 at *
            obtain ⟨l5, hl5⟩ : ∃ l5, l5 = told.length := ⟨_, rfl⟩
            obtain ⟨ta, tc, rfl⟩ := HOW.out.shape
            rw [← hl5] at hnk HOW ⊢
            have HL5 := hid' hl5
            clear hl5
            obtain ⟨il, hil, hl0, hl1, hl2⟩ := info_parts info_line
            have hml : l5 + 1 ≤ maxLen := by unfold maxLen; omega
            have hsz : w.heap.size ≤ (w2.alloc (.cells #[.int .i64 ((n : Int) + 1), .slice (some ⟨gw, 0, none⟩) (xn + 1) cw] 32)).heap.size := by have := HKB2.out.size; simp; omega
            go_wp2_with (at_builtin; refine wpList_append_lies _ rfl _ _ 23 rfl w.heap.size 32 il (.agg #[.int .i64 0, .slice none 0 0]) 2 32 und_lines hil hl0 hl1 hl2 rfl (by decide) _ l5 (lnc told vs) rfl (by have := HOW.out.row; rw [← HL5.out] at this; exact this.alloc _) ⟨w2.heap.size, 0, none⟩ 1 1 [.int .i64 ((n : Int) + 1), .slice (some ⟨gw, 0, none⟩) (xn + 1) cw] rfl rfl (cell_two w2 _ _ _) (fun x hx => by simp at hx; rcases hx with rfl | rfl <;> rfl) (by omega) hml (by omega) (by exact hsz) _ rfl ?_)
            intro g cap w4 hown' hgrow hgg hglt
            have HN : Hid (Kept w w4 ∧ OwnL w.heap.size w4 (.slice (some ⟨g, 0, none⟩) (l5 + 1) cap) (told ++ [(n + 1, x :: xs)]) (vs ++ [.slice (some ⟨gw, 0, none⟩) (xn + 1) cw])) := by
             have h0 := HOW.out.kept ((Kept.refl w2).alloc (.cells #[.int .i64 ((n : Int) + 1), .slice (some ⟨gw, 0, none⟩) (xn + 1) cw] 32))
             refine ⟨Below.grown (HKB2.out.alloc _) hgrow (by exact hsz) (fun i hi => (h0.row.lt i hi).1), ?_⟩
             have hwb : OwnS w.heap.size w2 (.slice (some ⟨gw, 0, none⟩) (xn + 1) cw) (x :: xs) := HW.out.2.mono H.out.kp.size
             have hcast : ((n + 1 : Nat) : Int) = (n : Int) + 1 := by omega
             refine h0.snoc (OwnS.kept hwb ((Kept.refl w2).alloc _)) (by simp) (fun b hb => ?_) (by rw [hcast]; exact hown') (by rw [HL5.out]) hgrow (by simpa using hgg)
             have hb1 := (HW.out.2.lt b hb).1
             refine ⟨fun e => ?_, fun i hi' e => ?_⟩
             ·
              have := (H.out.own.row.lt b (by rw [HL5.out] at e; exact e)).2; omega
             ·
              have := ((H.out.own.own i hi').lt b e).2; omega
            have q1 := owns_cell (i := l5 * 2 + 1) (u := .slice (some ⟨gw, 0, none⟩) (xn + 1) cw) hown' (by rw [List.getElem?_append_right (by rw [lnc_len _ _ H.out.own.len, HL5.out]; omega), lnc_len _ _ H.out.own.len, ← HL5.out, Nat.add_sub_cancel_left]; rfl)
            clear hown' hgrow hgg hsz hml
            have m1 : ((l5 : Int) + 1 - 1) = (l5 : Int) := by omega
            have m2 : IntKind.i64.wrap (l5 : Int) = (l5 : Int) := by rw [IntKind.wrap_i64]; omega
            have m3 : (l5 : Int) < (l5 : Int) + 1 := by omega
            have m4 : (0 : Int) ≤ (l5 : Int) := by omega
            by_cases h6 : 64 < xn + 1
            ·
             have h6' : (64 : Int) < (xn : Int) + 1 := by omega
             have HRe := hid' (show R = ([], n + 1, 7) by rw [HRR.out, go, HTK.out, if_pos h6])
             go_wp2_with fail
             go_ret3
             refine ⟨HN.out.1, ?_⟩
             rw [HRe.out]
             exact ⟨_, [], rfl, OwnL.nil _ _⟩
            ·
             have h6' : ¬ (64 : Int) < (xn : Int) + 1 := by omega
             have HI : Hid (LiI w w4 s.data.toList (.slice (some ⟨g, 0, none⟩) (l5 + 1) cap) (n + 1) (j + 1) (j + 1) (told ++ [(n + 1, x :: xs)]) (vs ++ [.slice (some ⟨gw, 0, none⟩) (xn + 1) cw])) := LiI.next hle HGO.out (by rw [HTK.out, if_neg h6]) HN.out.1 HN.out.2 HOK.out.1 HOK.out.2
             go_wp2_with fail
             go_roundw
             case rel => exact ⟨j + 1, n + 1, j + 1, _, _, by omega, Nat.le_refl _, by omega, fun _ => by omega, by go_num, by go_num, by go_num, HI.out⟩
             case measure => show s.size + 1 - ((j : Int) + 1).toNat < s.size + 1 - (j : Int).toNat; omega
       ·
        obtain ⟨hke, hfe⟩ := hb10t rfl
        have HRe := hid' (show R = (told, 0, 0) by
         rw [HR0.out, H.out.eq1 (by rw [len_list]; omega), List.drop_of_length_le (by rw [len_list]; omega)]
         rfl)
        clear hb10t hb10f H38 hke hfe
        go_wp2_with fail
        go_ret3
        refine ⟨H.out.kp, ?_⟩
        rw [HRe.out]
        exact ⟨_, vs, rfl, H.out.own⟩
     ·
      obtain ⟨hlt, hnc⟩ := hb9t rfl
      have HI : Hid (LiI w wc s.data.toList u5 n f (k + 1) told vs) := ⟨H.out.kp, H.out.own, H.out.ok, H.out.cnt, fun c hc => by
       rw [part_succ s f k hfk hlt] at hc
       rcases List.mem_append.1 hc with hc | hc
       ·
        exact H.out.nn c hc
       ·
        rw [List.mem_singleton] at hc; rw [hc]; exact hnc, H.out.eq1, H.out.eq2⟩
      clear hb9t hb9f H29 hnc
      go_wp2_with fail
      go_roundw
      case rel => exact ⟨k + 1, n, f, told, vs, by omega, by omega, hnf, fun h => by omega, rfl, rfl, by go_num, HI.out⟩
      case measure => show s.size + 1 - ((k : Int) + 1).toNat < s.size + 1 - (k : Int).toNat; omega
   ·
    have hle' : ¬ (k : Int) ≤ (s.size : Int) := by omega
    have HRe := hid' (show R = (told, 0, 0) by
     rw [HR0.out]
     exact H.out.eq2 (by rw [len_list, hfe (by omega)]; omega))
    clear hfe
    go_wp2_with fail
    go_ret3
    refine ⟨H.out.kp, ?_⟩
    rw [HRe.out]
    exact ⟨_, vs, rfl, H.out.own⟩
end X
end Go.Proofs.YtbmmiepjkamaeaaDoor

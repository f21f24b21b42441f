/- lex.withWord, lex.wordsOf. lex.wordsOf. lex.kindOf, lex.withoutPlus, lex.pieces. lex.withoutPlus, lex.pieces. -/
import Derived.Test.YtbmmiepjkamaeaaDoorGab
import Derived.Test.YtbmmiepjkamaeaaDoorXl
import Derived.OwnWalk
import Derived.Deep.AppendLies
namespace Go.Proofs.YtbmmiepjkamaeaaDoor
open Go.RowKit
namespace X
theorem info_str : (Tryd.prog.info? 9).map (fun i => (i.zero, i.size, i.bytes)) = some (some (.string ByteArray.empty), 1, 16) := by kernel_rfl
theorem und_strs : Tryd.prog.underlying 30 = some (.slice 9) := by kernel_rfl
def strs (ws : List (List UInt8)) : List Value := ws.map fun l => .string (bs l)
theorem strs_len (ws : List (List UInt8)) : (strs ws).length = ws.length * 1 := by simp [strs]
theorem strs_one (ws : List (List UInt8)) : ∀ u ∈ strs ws, u.oneCell' = true := by
 intro u hu
 obtain ⟨p, _, rfl⟩ := List.mem_map.1 hu
 rfl
theorem strs_app (a b : List (List UInt8)) : strs (a ++ b) = strs a ++ strs b := List.map_append
theorem strs_at (ws : List (List UInt8)) (j : Nat) (h : j < ws.length) : (strs ws)[j]? = some (.string (bs (ws.getD j []))) := by
 simp [strs, h]
def OwnS (B : Nat) (w : World) (v : Value) (ws : List (List UInt8)) : Prop := w.ownsRow B 9 1 v ws.length (strs ws)
theorem OwnS.nil (B : Nat) (w : World) : OwnS B w (.slice none 0 0) [] := World.ownsRow_nil _ _ _ _
theorem OwnS.kept {B : Nat} {w w' : World} {v : Value} {ws : List (List UInt8)} (h : OwnS B w v ws) (k : Kept w w') : OwnS B w' v ws := by
 obtain ⟨h1, h2 | ⟨g, cap, cur, h2, h3, h4, h5⟩⟩ := h
 ·
  exact ⟨h1, .inl h2⟩
 ·
  exact ⟨h1, .inr ⟨g, cap, cur, h2, h3, (k.block g (by
   rcases Nat.lt_or_ge g w.heap.size with hlt | hge
   ·
    exact hlt
   ·
    rw [Array.getElem?_eq_none hge] at h4; cases h4)).trans h4, h5⟩⟩
theorem cell_new (w : World) (x : Value) (t : TypeId) : ∀ j u, ([x] : List Value)[j]? = some u → (w.alloc (.cells #[x] t)).cell? ((⟨w.heap.size, 0, none⟩ : Addr).add j) = some u := by
 intro j u hj
 match j, hj with
 | 0, hj => simp at hj; subst hj; simp [Addr.add]
set_option maxHeartbeats 2000000 in
theorem withWord_any (B : Nat) (v : Value) (ws : List (List UInt8)) (s : ByteArray) (w : World) (hB : B ≤ w.heap.size) (hown : OwnS B w v ws) (hl : ws.length ≤ 1000000) (hs : s.size ≤ 9223372036854775807) :
  Calls Tryd.prog 27 #[v, .string s] w fun e w' => Below B w w' ∧ ∃ v', e = .returned v' ∧ OwnS B w' v' (ws ++ emit s.data.toList) := by
 have HO := hid' hown
 clear hown
 by_cases h0 : s = ⟨#[]⟩
 ·
  subst h0
  go_enter Tryd.func27, Tryd.ntmps27
  go_wp2_with fail
  go_ret
  refine ⟨Below.refl _ _, v, rfl, ?_⟩
  rw [show emit (⟨#[]⟩ : ByteArray).data.toList = [] from rfl, List.append_nil]
  exact HO.out
 ·
  obtain ⟨i0, hi, hz0, hz1, hz2⟩ := info_parts info_str
  have hne : s.toList.isEmpty = false := by
   rw [ByteArray.toList_eq, Bool.eq_false_iff]
   intro e
   exact h0 (by rw [← bs_back s, List.isEmpty_iff.1 e]; rfl)
  have HE := hid' (show emit s.data.toList = [s.data.toList.map sm] from if_neg (fun h => h0 (by rw [← bs_back s, h]; rfl)))
  have hml : ws.length + 1 ≤ maxLen := by unfold maxLen; omega
  go_enter Tryd.func27, Tryd.ntmps27
  go_wp2_with fail
  refine (small_any s _ hs).mono ?_
  rintro e w1 ⟨hk, rfl⟩
  have HK := hid' hk
  have hsz : B ≤ (w1.alloc (.cells #[.string (bs (s.data.toList.map sm))] 9)).heap.size := by have := hk.size; simp; omega
  clear hk
  go_wp2_with (at_builtin; refine wpList_append_own _ rfl _ _ 30 rfl B 9 i0 (.string ByteArray.empty) 1 16 und_strs hi hz0 hz1 hz2 rfl (by decide) _ _ _ rfl ((HO.out.kept HK.out).alloc _) ⟨w1.heap.size, 0, none⟩ 1 1 [.string (bs (s.data.toList.map sm))] rfl rfl (cell_new w1 _ _) (fun x hx => by simp at hx; subst hx; rfl) hml (by omega) (by exact hsz) ?_)
  intro v' w2 hown' hgrow _
  have HN : Hid (Below B w w2 ∧ OwnS B w2 v' (ws ++ emit s.data.toList)) := by
   have hk : Below B w w1 := Below.mono HK.out hB
   have hs1 : B ≤ w1.heap.size := Nat.le_trans hB HK.out.size
   refine ⟨Below.grown (hk.alloc hs1 _) hgrow (by exact hsz) (fun j hj => (HO.out.lt j hj).1), ?_⟩
   rw [HE.out]
   unfold OwnS
   rw [strs_app, List.length_append]
   exact hown'
  clear hown' hgrow hsz
  go_wp2_with fail
  go_ret
  exact ⟨HN.out.1, v', rfl, HN.out.2⟩
end X
end Go.Proofs.YtbmmiepjkamaeaaDoor

namespace Go.Proofs.YtbmmiepjkamaeaaDoor
open Go.RowKit
namespace X
theorem ext_part (s : ByteArray) (f k : Nat) : (s.extract f k).data.toList = (s.data.toList.take k).drop f := by
 rw [ByteArray.data_extract]; simp [List.drop_take]
theorem ext_end (s : ByteArray) (f : Nat) : (s.extract f s.size).data.toList = s.data.toList.drop f := by
 rw [ext_part, List.take_of_length_le (by rw [len_list]; exact Nat.le_refl _)]
theorem part_none (s : ByteArray) (f : Nat) : (s.data.toList.take f).drop f = [] := by
 apply List.drop_eq_nil_of_le; rw [List.length_take]; omega
theorem part_succ (s : ByteArray) (f i : Nat) (hf : f ≤ i) (hi : i < s.size) : (s.data.toList.take (i + 1)).drop f = (s.data.toList.take i).drop f ++ [s[i]] := by
 rw [take_at s i hi, List.drop_append_of_le_length (by rw [List.length_take, len_list]; omega)]
theorem drop_at (s : ByteArray) (i : Nat) (hi : i < s.size) : s.data.toList.drop i = s[i] :: s.data.toList.drop (i + 1) :=
 List.drop_eq_getElem_cons (by rw [len_list]; exact hi)
theorem wd_len (L : List UInt8) : ∀ cur : List UInt8, (wd cur L).length ≤ L.length + 1 := by
 have he : ∀ cur, (emit cur).length ≤ 1 := fun cur => by unfold emit; split <;> simp
 induction L with
 | nil => intro cur; exact he cur
 | cons c L ih =>
  intro cur
  rw [wd]
  split
  ·
   rw [List.length_append, List.length_cons]
   have := he cur
   have := ih []
   omega
  ·
   have := ih (cur ++ [c])
   rw [List.length_cons]
   omega
structure WdI (w wr : World) (L : List UInt8) (v : Value) (f k : Nat) (ws : List (List UInt8)) : Prop where
 kp : Kept w wr
 own : OwnS w.heap.size wr v ws
 eq : wd [] L = ws ++ wd ((L.take k).drop f) (L.drop k)
set_option maxRecDepth 100000 in
set_option maxHeartbeats 4000000 in
theorem wordsOf_any (s : ByteArray) (w : World) (hs : s.size ≤ 65536) : Calls Tryd.prog 20 #[.string s] w fun e w' => Kept w w' ∧ ∃ v, e = .returned v ∧ OwnS w.heap.size w' v (wordsL s.data.toList) := by
 have hcut := cut_any s w (by omega)
 go_enter Tryd.func20, Tryd.ntmps20
 go_wp2_with fail
 refine hcut.mono ?_
 rintro e w1 ⟨hk, b, fl, rfl⟩
 clear hcut
 obtain ⟨t, ht⟩ : ∃ t, t = bs (said s.data.toList) := ⟨_, rfl⟩
 rw [← ht]
 have hT : t.data.toList = said s.data.toList := by rw [ht]; rfl
 have hz : t.size ≤ 65536 := by
  rw [← len_list, hT]
  have := (List.takeWhile_sublist (fun c => !isR c) (l := s.data.toList)).length_le
  rw [len_list] at this
  unfold said
  omega
 have HT := hid' (And.intro hk (show wordsL s.data.toList = wd [] t.data.toList by rw [hT]; rfl))
 clear ht hT hk
 go_wp2_with fail
 go_loopw [6, 7, 17] (fun vv vf vi wr => ∃ (f k : Nat) (ws : List (List UInt8)), f ≤ k ∧ k ≤ t.size ∧ vf = .int .i64 (f : Int) ∧ vi = .int .i64 (k : Int) ∧ Hid (WdI w wr t.data.toList vv f k ws)) (fun _ _ vi _ => t.size - (intOf vi).toNat)
 case atStart => exact ⟨0, 0, [], Nat.le_refl _, Nat.zero_le _, rfl, rfl, HT.out.1, OwnS.nil _ _, by simp⟩
 case round =>
  obtain ⟨f, k, ws, hf, hk, rfl, rfl, H⟩ := hrel
  have hwl : ws.length ≤ 1000000 := by
   have h1 := wd_len t.data.toList []
   rw [H.out.eq, List.length_append, len_list] at h1
   omega
  have hBw : w.heap.size ≤ wr.heap.size := H.out.kp.size
  have f0 : (0 : Int) ≤ (f : Int) := by omega
  have f1 : (f : Int) ≤ (k : Int) := by omega
  have f2 : (k : Int) ≤ (t.size : Int) := by omega
  have f3 : (f : Int) ≤ (t.size : Int) := by omega
  by_cases hlt : k < t.size
  ·
   have hi : (k : Int) < (t.size : Int) := by omega
   have HB := hid' (isBI_of t[k])
   go_wp2_with fail
   refine (isBlank_any _ _).mono ?_
   rintro e w2 ⟨rfl, rfl⟩
   by_cases h0 : isBI (t[k].toNat : Int) = true
   ·
    rw [h0]
    go_wp2_with fail
    refine (withWord_any w.heap.size _ ws (t.extract f k) _ hBw H.out.own hwl (by rw [ByteArray.size_extract]; omega)).mono ?_
    rintro e w3 ⟨hb, v', rfl, own'⟩
    have HN : Hid (WdI w w3 t.data.toList v' (k + 1) (k + 1) (ws ++ emit (t.extract f k).data.toList)) := by
     refine ⟨Below.trans H.out.kp hb, own', ?_⟩
     rw [part_none, H.out.eq, drop_at t k hlt, wd, if_pos (by rw [← HB.out]; exact h0), ext_part, List.append_assoc]
    clear hb own'
    go_wp2_with fail
    go_roundw
    case rel => exact ⟨k + 1, k + 1, _, Nat.le_refl _, by omega, by go_num, by go_num, HN.out⟩
    case measure => show t.size - ((k : Int) + 1).toNat < t.size - (k : Int).toNat; omega
   ·
    have h0 : isBI (t[k].toNat : Int) = false := by simpa using h0
    rw [h0]
    have HN : Hid (WdI w w2 t.data.toList _ f (k + 1) ws) := ⟨H.out.kp, H.out.own, by
     rw [H.out.eq, drop_at t k hlt, wd, if_neg (by rw [← HB.out, h0]; decide), part_succ t f k hf hlt]⟩
    go_wp2_with fail
    go_roundw
    case rel => exact ⟨f, k + 1, ws, by omega, by omega, rfl, by go_num, HN.out⟩
    case measure => show t.size - ((k : Int) + 1).toNat < t.size - (k : Int).toNat; omega
  ·
   have hi : ¬ (k : Int) < (t.size : Int) := by omega
   have hke : k = t.size := by omega
   go_wp2_with fail
   refine (withWord_any w.heap.size _ ws (t.extract f t.size) _ hBw H.out.own hwl (by rw [ByteArray.size_extract]; omega)).mono ?_
   rintro e w3 ⟨hb, v', rfl, own'⟩
   have HN : Hid (Kept w w3 ∧ OwnS w.heap.size w3 v' (wordsL s.data.toList)) := by
    refine ⟨Below.trans H.out.kp hb, ?_⟩
    have e1 : t.data.toList.drop t.size = [] := List.drop_of_length_le (by rw [len_list]; exact Nat.le_refl _)
    have e2 : t.data.toList.take t.size = t.data.toList := List.take_of_length_le (by rw [len_list]; exact Nat.le_refl _)
    rw [HT.out.2, H.out.eq, hke, e1, e2, wd, ← ext_end]
    exact own'
   clear hb own'
   go_wp2_with fail
   go_ret
   exact ⟨HN.out.1, v', rfl, HN.out.2⟩
end X
end Go.Proofs.YtbmmiepjkamaeaaDoor

namespace Go.Proofs.YtbmmiepjkamaeaaDoor
open Go.RowKit
namespace X
theorem emit_ne (cur : List UInt8) : ∀ w ∈ emit cur, w ≠ [] := by
 intro w hw
 unfold emit at hw
 split at hw
 ·
  simp at hw
 ·
  rename_i h
  rw [List.mem_singleton] at hw
  subst hw
  simpa using h
theorem wd_ne (L : List UInt8) : ∀ cur : List UInt8, ∀ w ∈ wd cur L, w ≠ [] := by
 induction L with
 | nil => intro cur; exact emit_ne cur
 | cons c L ih =>
  intro cur w hw
  rw [wd] at hw
  split at hw
  ·
   rcases List.mem_append.1 hw with hw | hw
   ·
    exact emit_ne cur w hw
   ·
    exact ih [] w hw
  ·
   exact ih _ w hw
theorem OwnS.shape {B : Nat} {w : World} {v : Value} {ws : List (List UInt8)} (h : OwnS B w v ws) : ∃ ao cap, v = .slice ao ws.length cap := by
 obtain ⟨_, ⟨h2, h3⟩ | ⟨g, cap, cur, h2, _⟩⟩ := h
 ·
  exact ⟨none, 0, by rw [h2, h3]⟩
 ·
  exact ⟨_, _, h2⟩
theorem OwnS.read {B : Nat} {w : World} {v : Value} {ws : List (List UInt8)} (h : OwnS B w v ws) (h0 : 0 < ws.length) : ∃ g cap, v = .slice (some ⟨g, 0, none⟩) ws.length cap ∧ B ≤ g ∧ g < w.heap.size ∧ ws.length ≤ cap ∧ (∀ j, j < ws.length → w.cell? ⟨g, j, none⟩ = some (.string (bs (ws.getD j [])))) ∧ ∀ j, w.frozen? ⟨g, j, none⟩ = false := by
 obtain ⟨_, ⟨_, h3⟩ | ⟨g, cap, cur, h2, hB, hg, hn, _, hs, ht⟩⟩ := h
 ·
  omega
 ·
  have hlt : g < w.heap.size := by
   rcases Nat.lt_or_ge g w.heap.size with hlt | hge
   ·
    exact hlt
   ·
    rw [Array.getElem?_eq_none hge] at hg; cases hg
  refine ⟨g, cap, h2, hB, hlt, hn, fun j hj => ?_, fun j => by simp [World.frozen?, hg]⟩
  have := strs_at ws j hj
  rw [← ht, List.getElem?_take_of_lt (by omega), Array.getElem?_toList] at this
  simp [World.cell?, hg, this]
def kindI : List (List UInt8) → Int
 | [] => 0
 | w :: _ => if isC 42 w = true then 0 else if isC 43 w = true then 1 else 2
theorem isC_at (k : Nat) (l : List UInt8) (h : 0 < (bs l).size) : isC k l = decide (((bs l)[0].toNat : Int) = (k : Int)) := by
 cases l with
 | nil => simp [bs_size] at h
 | cons c l =>
  have e : (bs (c :: l))[0] = c := rfl
  rw [e]
  show decide (c.toNat = k) = _
  rw [decide_eq_decide]
  omega
set_option maxHeartbeats 4000000 in
theorem kindOf_any (B : Nat) (v : Value) (ws : List (List UInt8)) (w : World) (hown : OwnS B w v ws) (hne : ∀ x ∈ ws, x ≠ []) (hl : ws.length ≤ 1000000) :
  Calls Tryd.prog 21 #[v] w fun e w' => w' = w ∧ e = .returned (.int .i64 (kindI ws)) := by
 obtain ⟨ao, cap, rfl⟩ := hown.shape
 cases ws with
 | nil =>
  clear hown hne
  go_enter Tryd.func21, Tryd.ntmps21
  go_wp2_with fail
  go_ret
  exact ⟨rfl, rfl⟩
 | cons x ws =>
  obtain ⟨g, cap', hv, _, _, hcap, hc, _⟩ := hown.read (by simp)
  simp only [Value.slice.injEq] at hv
  obtain ⟨rfl, _, rfl⟩ := hv
  have c0 := hc 0 (by simp)
  have hx : 0 < (bs x).size := by
   rw [bs_size]
   have := hne x (by simp)
   cases x with
   | nil => exact absurd rfl this
   | cons c x => simp
  have i1 := isC_at 42 x hx
  have i2 := isC_at 43 x hx
  rw [List.getD_cons_zero] at c0
  have hxz : (0 : Int) < ((bs x).size : Int) := by omega
  obtain ⟨n, hn⟩ : ∃ n, n = (x :: ws).length := ⟨_, rfl⟩
  have hn0 : 0 < n := by rw [hn]; simp
  have hnz : (0 : Int) < (n : Int) := by omega
  have hn1 : ¬ n = 0 := by omega
  have HI := hid' (show kindI (x :: ws) = if isC 42 x = true then 0 else if isC 43 x = true then 1 else 2 from rfl)
  rw [← hn] at hl ⊢
  generalize kindI (x :: ws) = z at HI ⊢
  have HJ := hid' (And.intro i1 i2)
  clear hown hne hc hn i1 i2 hcap
  generalize bs x = t at *
  by_cases h42 : (t[0].toNat : Int) = 42
  ·
   have hz : z = 0 := by rw [HI.out, HJ.out.1, if_pos (by simpa using h42)]
   subst hz
   clear HI HJ
   go_enter Tryd.func21, Tryd.ntmps21
   go_wp2_with fail
   go_ret
   exact ⟨rfl, rfl⟩
  ·
   by_cases h43 : (t[0].toNat : Int) = 43
   ·
    have hz : z = 1 := by rw [HI.out, HJ.out.1, if_neg (by simpa using h42), HJ.out.2, if_pos (by simpa using h43)]
    subst hz
    clear HI HJ
    have b1 : ((t[0].toNat : Int) == 42) = false := by simpa using h42
    go_enter Tryd.func21, Tryd.ntmps21
    go_wp2_with fail
    go_ret
    exact ⟨rfl, rfl⟩
   ·
    have hz : z = 2 := by rw [HI.out, HJ.out.1, if_neg (by simpa using h42), HJ.out.2, if_neg (by simpa using h43)]
    subst hz
    clear HI HJ
    have b1 : ((t[0].toNat : Int) == 42) = false := by simpa using h42
    have b2 : ((t[0].toNat : Int) == 43) = false := by simpa using h43
    go_enter Tryd.func21, Tryd.ntmps21
    go_wp2_with fail
    go_ret
    exact ⟨rfl, rfl⟩
end X
end Go.Proofs.YtbmmiepjkamaeaaDoor

namespace Go.Proofs.YtbmmiepjkamaeaaDoor
open Go.RowKit
namespace X
def noPlus : List (List UInt8) → List (List UInt8)
 | [] => []
 | w :: ws => if w.tail = [] then ws else w.tail :: ws
def ReadS (w : World) (v : Value) (ws : List (List UInt8)) (ok : Nat → Prop) : Prop :=
 ∃ ao c, v = .slice ao ws.length c ∧ (0 < ws.length → ∃ b off, ao = some ⟨b, off, none⟩ ∧ ok b ∧ b < w.heap.size ∧ ∀ j, j < ws.length → w.cell? ⟨b, off + j, none⟩ = some (.string (bs (ws.getD j []))))
set_option maxHeartbeats 4000000 in
theorem withoutPlus_any (B : Nat) (v : Value) (x : List UInt8) (ws : List (List UInt8)) (w : World) (hown : OwnS B w v (x :: ws)) (hx : isC 43 x = true) (hl : (x :: ws).length ≤ 1000000) :
  Calls Tryd.prog 22 #[v] w fun e w' => w'.heap.size = w.heap.size ∧ Below B w w' ∧ (∀ b, b < w.heap.size → v.ownBlock ≠ some b → w'.heap[b]? = w.heap[b]?) ∧ ∃ u, e = .returned u ∧ ReadS w' u (noPlus (x :: ws)) (fun b => v.ownBlock = some b) := by
 obtain ⟨g, cap, rfl, hB, hg, hcap, hc, hfz⟩ := hown.read (by simp)
 have c0 := hc 0 (by simp)
 rw [List.getD_cons_zero] at c0
 have z0 := hfz 0
 have HC := hid' (And.intro hB (And.intro hg hc))
 obtain ⟨n, hn⟩ : ∃ n, n = ws.length := ⟨_, rfl⟩
 have hn1 : (x :: ws).length = n + 1 := by rw [hn]; rfl
 rw [hn1] at hl hcap ⊢
 have HN := hid' hn
 have hcz : ((n : Int) + 1) ≤ (cap : Int) := by omega
 have n1 : (0 : Int) ≤ (n : Int) + 1 := by omega
 have n2 : (1 : Int) ≤ (n : Int) + 1 := by omega
 have n3 : (0 : Int) < (n : Int) + 1 := by omega
 cases x with
 | nil => cases hx
 | cons c r =>
  have hcc : c = 43 := UInt8.toNat_inj.1 (by simpa [isC] using hx)
  subst hcc
  clear hown hc hfz hn hn1 hx hB hg
  by_cases hr : r = []
  ·
   subst hr
   have HP : Hid (noPlus ([43] :: ws) = ws) := hid' (by rfl)
   have HR : Hid (∀ ao c, (0 < n → ao = some ⟨g, 1, none⟩) → ReadS w (.slice ao n c) ws (fun b => (Value.slice (some ⟨g, 0, none⟩) (n + 1) cap).ownBlock = some b)) := by
    intro ao c ha
    refine ⟨ao, c, by rw [HN.out], fun h0 => ⟨g, 1, ha (by rw [HN.out]; exact h0), rfl, HC.out.2.1, fun j hj => ?_⟩⟩
    have := HC.out.2.2 (j + 1) (by simpa using hj)
    rw [Nat.add_comm 1 j]
    simpa using this
   have hlit : bs [43] = ⟨#[43]⟩ := rfl
   rw [hlit] at c0
   clear hlit
   go_enter Tryd.func22, Tryd.ntmps22
   go_wp2_with fail
   all_goals
    go_ret
    refine ⟨rfl, Below.refl _ _, fun _ _ _ => rfl, _, rfl, ?_⟩
    rw [HP.out]
    first
    | exact HR.out _ _ (fun _ => rfl)
    | exact HR.out _ _ (fun h0 => absurd h0 (by omega))
  ·
   have HP := hid' (show noPlus ((43 :: r) :: ws) = r :: ws from if_neg hr)
   have hne' : ¬ (bs (43 :: r)).toList = [43] := by
    rw [ByteArray.toList_eq, bs_list]
    cases r with
    | nil => exact absurd rfl hr
    | cons c r => simp
   have hne : ((bs (43 :: r)).toList == [43]) = false := by simpa using hne'
   have hz : 1 ≤ (bs (43 :: r)).size := by rw [bs_size]; simp
   have hz' : (1 : Int) ≤ ((bs (43 :: r)).size : Int) := by omega
   have HE := hid' (show (bs (43 :: r)).extract 1 (bs (43 :: r)).size = bs r by
    rw [← bs_back ((bs (43 :: r)).extract 1 (bs (43 :: r)).size), ext_end]; rfl)
   generalize bs (43 :: r) = t at c0 hne hne' hz hz' HE ⊢
   go_enter Tryd.func22, Tryd.ntmps22
   go_wp2_with fail
   go_ret
   refine ⟨by simp, (Below.refl B w).setCell (p := ⟨g, 0, none⟩) HC.out.1 _, fun b _ hb => Deep.blk_setCell_other w ⟨g, 0, none⟩ _ b (fun e => hb (by rw [e]; rfl)), _, rfl, ?_⟩
   rw [HP.out, HE.out]
   refine ⟨some ⟨g, 0, none⟩, cap, by rw [List.length_cons, HN.out]; rfl, fun _ => ⟨g, 0, rfl, rfl, by simpa using HC.out.2.1, fun j hj => ?_⟩⟩
   rw [Nat.zero_add]
   cases j with
   | zero => rw [World.cell?_setCell_same _ _ _ c0]; rfl
   | succ j =>
    rw [World.cell?_setCell_other _ _ _ _ (by intro hh; cases hh), HC.out.2.2 (j + 1) (by simpa using hj)]
    simp
theorem cut10_len_le (a : List UInt8) : (cut10 a).length ≤ a.length + 1 := by
 induction a with
 | nil => simp [cut10]
 | cons c a ih =>
  by_cases h : isN c = true
  ·
   rw [cut10_cons_yes h, List.length_cons, List.length_cons]; omega
  ·
   rcases ha : cut10 a with _ | ⟨p, ps⟩
   ·
    exact absurd ha (cut10_ne a)
   ·
    rw [cut10_cons_no (by simpa using h) a ha]
    rw [ha] at ih
    simpa using Nat.le_succ_of_le ih
set_option maxHeartbeats 4000000 in
theorem pieces_any (s : ByteArray) (w : World) (hs : s.size ≤ 65536) : Calls Tryd.prog 14 #[.string s] w fun e w' => Kept w w' ∧ ∃ g n c, e = .returned (.slice (some ⟨g, 0, none⟩) n c) ∧ n = (piecesL s.data.toList).length ∧ n ≤ 65537 ∧ w.heap.size ≤ g ∧ g < w'.heap.size ∧ ∀ j, j < n → w'.cell? ⟨g, j, none⟩ = some (.string (bs ((piecesL s.data.toList).getD j []))) := by
 have hsp := split_any s w (by omega)
 have hne := cut10_ne s.data.toList
 have hlen := cut10_len_le s.data.toList
 rw [len_list] at hlen
 have HP := hid' (show piecesL s.data.toList = if (cut10 s.data.toList).getLast? = some [] then (cut10 s.data.toList).dropLast else cut10 s.data.toList from rfl)
 generalize piecesL s.data.toList = P at HP ⊢
 generalize cut10 s.data.toList = C at hsp hne hlen HP
 obtain ⟨n, hn⟩ : ∃ n, C.length = n + 1 := ⟨C.length - 1, by
  cases C with
  | nil => exact absurd rfl hne
  | cons c C => simp⟩
 rw [hn] at hsp hlen
 have hrow := World.rowIs_alloc w ((C.map (fun l => Value.string (bs l))).toArray) 9 (fun j => .string (bs (C.getD j []))) (fun i hi => by
  simp at hi
  simp [hi])
 have hcz : ((C.map (fun l => Value.string (bs l))).toArray).size = n + 1 := by simp [hn]
 rw [hcz] at hrow
 have hK := (Kept.refl w).alloc (.cells (C.map (fun l => Value.string (bs l))).toArray 9)
 generalize w.alloc (.cells (C.map (fun l => Value.string (bs l))).toArray 9) = W at hsp hrow hK
 obtain ⟨g, hg⟩ : ∃ g, g = w.heap.size := ⟨_, rfl⟩
 rw [← hg] at hsp hrow
 have hgw : w.heap.size ≤ g := by omega
 have c0 := hrow.cell (i := n) (by omega)
 have hlast : C.getLast? = some (C.getD n []) := by
  rw [List.getLast?_eq_getElem?, hn, Nat.add_sub_cancel, List.getElem?_eq_getElem (by omega), List.getD_eq_getElem?_getD, List.getElem?_eq_getElem (by omega)]; rfl
 have HR := hid' (And.intro hrow (And.intro hK (And.intro hgw (And.intro hn hlast))))
 have hlt := hrow.lt
 obtain ⟨t, ht⟩ : ∃ t, t = bs (C.getD n []) := ⟨_, rfl⟩
 rw [← ht] at c0
 have HT := hid' ht
 clear hcz hrow hK hg hgw hne hn hlast ht
 have n1 : ((n : Int) + 1 - 1) = (n : Int) := by omega
 have n2 : IntKind.i64.wrap (n : Int) = (n : Int) := by rw [IntKind.wrap_i64]; omega
 have n3 : (n : Int) < (n : Int) + 1 := by omega
 have n4 : (0 : Int) ≤ (n : Int) := by omega
 have n5 : (n : Int) ≤ (n : Int) + 1 := by omega
 by_cases h0 : t.toList = []
 ·
  have hb : t.toList.isEmpty = true := by rw [h0]; rfl
  have HE : Hid (P = C.dropLast ∧ n = P.length) := by
   have e : C.getD n [] = [] := by rw [← bs_list (C.getD n []), ← HT.out, ← ByteArray.toList_eq]; exact h0
   have hp : P = C.dropLast := by rw [HP.out, HR.out.2.2.2.2, e, if_pos rfl]
   exact ⟨hp, by rw [hp, List.length_dropLast, HR.out.2.2.2.1, Nat.add_sub_cancel]⟩
  clear h0
  go_enter Tryd.func14, Tryd.ntmps14
  go_wp2_with fail
  refine hsp.mono ?_
  rintro e w1 ⟨rfl, rfl⟩
  go_wp2_with fail
  all_goals
   go_ret
   refine ⟨HR.out.2.1, g, n, n + 1, rfl, HE.out.2, by omega, HR.out.2.2.1, hlt, fun j hj => ?_⟩
   rw [HR.out.1.cell (by omega), HE.out.1]
   have hj2 : j < C.length - 1 := by rw [HR.out.2.2.2.1]; omega
   rw [List.getD_eq_getElem?_getD, List.getD_eq_getElem?_getD, List.getElem?_dropLast, if_pos hj2]
 ·
  have hb : t.toList.isEmpty = false := by simpa using h0
  have HE : Hid (P = C ∧ n + 1 = P.length) := by
   have e : ¬ (some (C.getD n []) : Option (List UInt8)) = some [] := by
    intro hh
    apply h0
    rw [ByteArray.toList_eq, HT.out, bs_list]
    exact Option.some.inj hh
   have hp : P = C := by rw [HP.out, HR.out.2.2.2.2, if_neg e]
   exact ⟨hp, by rw [hp, HR.out.2.2.2.1]⟩
  clear h0
  go_enter Tryd.func14, Tryd.ntmps14
  go_wp2_with fail
  refine hsp.mono ?_
  rintro e w1 ⟨rfl, rfl⟩
  go_wp2_with fail
  all_goals
   go_ret
   refine ⟨HR.out.2.1, g, n + 1, n + 1, rfl, HE.out.2, by omega, HR.out.2.2.1, hlt, fun j hj => ?_⟩
   rw [HR.out.1.cell hj, HE.out.1]
end X
end Go.Proofs.YtbmmiepjkamaeaaDoor

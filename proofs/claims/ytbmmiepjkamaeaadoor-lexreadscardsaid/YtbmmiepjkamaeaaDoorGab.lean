/- lex.isBlank, lex.rightBytes, lex.small. lex.small. -/
import Derived.Test.YtbmmiepjkamaeaaDoorKp
import Derived.Test.YtbmmiepjkamaeaaDoorGaa
import Derived.Deep.RegionHeld3
import Derived.Laws.IdiomStrings
namespace Go.Proofs.YtbmmiepjkamaeaaDoor
open Go.RowKit
namespace X
theorem hid' {p : Prop} (h : p) : Hid p := h
def bs (l : List UInt8) : ByteArray := ⟨l.toArray⟩
theorem bs_list (l : List UInt8) : (bs l).data.toList = l := rfl
theorem bs_back (s : ByteArray) : bs s.data.toList = s := rfl
theorem bs_size (l : List UInt8) : (bs l).size = l.length := by unfold bs; simp [ByteArray.size]
theorem len_list (s : ByteArray) : s.data.toList.length = s.size := by rw [Array.length_toList]; rfl
theorem list_at (s : ByteArray) (k : Nat) (h : k < s.size) : s.data.toList[k]? = some s[k] := by
 rw [List.getElem?_eq_getElem (by rw [Array.length_toList]; exact h)]; rfl
theorem take_at (s : ByteArray) (k : Nat) (h : k < s.size) : s.data.toList.take (k + 1) = s.data.toList.take k ++ [s[k]] :=
 List.take_succ_eq_append_getElem (by rw [Array.length_toList]; exact h)
def isBI (z : Int) : Bool := decide (z = 9 ∨ z = 13 ∨ z = 32)
theorem isBI_of (c : UInt8) : isBI (c.toNat : Int) = isB c := by
 unfold isBI isB
 rw [decide_eq_decide]
 omega
set_option maxHeartbeats 2000000 in
theorem isBlank_any (z : Int) (w : World) : Calls Tryd.prog 25 #[.int .u8 z] w fun e w' => w' = w ∧ e = .returned (.bool (isBI z)) := by
 go_enter Tryd.func25, Tryd.ntmps25
 go_wp2
 all_goals
  go_ret
  refine ⟨rfl, congrArg (fun b => Ending.returned (Value.bool b)) ?_⟩
  unfold isBI
  rw [Bool.eq_iff_iff]
  simp_all
def allOk (l : List UInt8) : Bool := l.all okB
theorem all_take {s : ByteArray} {k : Nat} (hk : k < s.size) (h : (s.data.toList.take k).all okB = true) (h2 : okB s[k] = true) : (s.data.toList.take (k + 1)).all okB = true := by
 rw [take_at s k hk, List.all_append, h]
 simp [h2]
theorem all_not {s : ByteArray} {k : Nat} (hk : k < s.size) (h2 : okB s[k] = false) : s.data.toList.all okB = false := by
 rw [List.all_eq_false]
 refine ⟨s[k], ?_, by rw [h2]; decide⟩
 exact List.mem_of_getElem? (list_at s k hk)
set_option maxHeartbeats 4000000 in
theorem right_any (s : ByteArray) (w : World) (hs : s.size ≤ 9223372036854775807) : Calls Tryd.prog 19 #[.string s] w fun e w' => w' = w ∧ e = .returned (.bool (allOk s.data.toList)) := by
 go_enter Tryd.func19, Tryd.ntmps19
 go_wp2_with fail
 go_loopw [7] (fun vi wr => ∃ k : Nat, k ≤ s.size ∧ vi = .int .i64 (k : Int) ∧ Hid ((s.data.toList.take k).all okB = true) ∧ wr = w) (fun vi _ => s.size - (intOf vi).toNat)
 case atStart => exact ⟨0, Nat.zero_le _, rfl, hid' (by simp), rfl⟩
 case round =>
  obtain ⟨k, hk, rfl, HD, rfl⟩ := hrel
  by_cases hlt : k < s.size
  ·
   have hi : (k : Int) < (s.size : Int) := by omega
   have hb := isBI_of s[k]
   go_wp2_with fail
   refine (isBlank_any _ _).mono ?_
   rintro e w1 ⟨rfl, rfl⟩
   have HB := hid' hb
   clear hb
   by_cases h0 : isBI (s[k].toNat : Int) = true
   ·
    rw [h0]
    have ho : okB s[k] = true := by
     have := HB.out
     unfold okB
     rw [← this, h0]; rfl
    go_wp2_with fail
    go_roundw
    case rel => exact ⟨k + 1, by omega, by go_num, all_take hlt HD.out ho, trivial⟩
    case measure => show s.size - ((k : Int) + 1).toNat < s.size - (k : Int).toNat; omega
   ·
    have h0 : isBI (s[k].toNat : Int) = false := by simpa using h0
    rw [h0]
    by_cases h1 : s[k].toNat < 33
    ·
     have h1' : (s[k].toNat : Int) < 33 := by omega
     have ho : okB s[k] = false := by
      have := HB.out
      unfold okB
      rw [← this, h0, decide_eq_false (by omega)]; rfl
     have HO := hid' ho
     clear ho
     go_wp2_with fail
     go_ret
     exact ⟨rfl, congrArg (fun b => Ending.returned (Value.bool b)) (all_not hlt HO.out).symm⟩
    ·
     have h1' : ¬ (s[k].toNat : Int) < 33 := by omega
     by_cases h2 : 126 < s[k].toNat
     ·
      have h2' : (126 : Int) < (s[k].toNat : Int) := by omega
      have ho : okB s[k] = false := by
       have := HB.out
       unfold okB
       rw [← this, h0, decide_eq_false (by omega)]; rfl
      have HO := hid' ho
      clear ho
      go_wp2_with fail
      go_ret
      exact ⟨rfl, congrArg (fun b => Ending.returned (Value.bool b)) (all_not hlt HO.out).symm⟩
     ·
      have h2' : ¬ (126 : Int) < (s[k].toNat : Int) := by omega
      have ho : okB s[k] = true := by
       unfold okB
       rw [decide_eq_true (show 33 ≤ s[k].toNat ∧ s[k].toNat ≤ 126 by omega), Bool.or_true]
      have HO := hid' ho
      clear ho
      go_wp2_with fail
      go_roundw
      case rel => exact ⟨k + 1, by omega, by go_num, all_take hlt HD.out HO.out, trivial⟩
      case measure => show s.size - ((k : Int) + 1).toNat < s.size - (k : Int).toNat; omega
  ·
   have hi : ¬ (k : Int) < (s.size : Int) := by omega
   have H : Hid (s.data.toList.all okB = true) := by
    have := HD.out
    rwa [List.take_of_length_le (by rw [len_list]; omega)] at this
   clear hlt
   go_wp2_with fail
   go_ret
   exact ⟨rfl, congrArg (fun b => Ending.returned (Value.bool b)) H.out.symm⟩
end X
end Go.Proofs.YtbmmiepjkamaeaaDoor

namespace Go.Proofs.YtbmmiepjkamaeaaDoor
open Go.RowKit
namespace X
def BRow (w : World) (p : Nat) (l : List UInt8) : Prop := p < w.heap.size ∧ ∀ j, j < l.length → w.cell? ⟨p, j, none⟩ = some (.int .u8 ((l.getD j 0).toNat : Int)) ∧ w.frozen? ⟨p, j, none⟩ = false
theorem BRow.set {w : World} {p : Nat} {l : List UInt8} (h : BRow w p l) {i : Nat} (hi : i < l.length) (c : UInt8) {z : Int} (hz : z = (c.toNat : Int)) : BRow (w.setCell ⟨p, i, none⟩ (.int .u8 z)) p (l.set i c) := by
 subst hz
 refine ⟨by simpa using h.1, fun j hj => ?_⟩
 rw [List.length_set] at hj
 have := h.2 j hj
 refine ⟨?_, by simpa using this.2⟩
 by_cases e : i = j
 ·
  subst e
  rw [World.cell?_setCell_same _ _ _ this.1, List.getD_eq_getElem?_getD, List.getElem?_set_self hi]; rfl
 ·
  rw [World.cell?_setCell_other _ _ _ _ (by intro hh; cases hh; exact e rfl), this.1, List.getD_eq_getElem?_getD, List.getD_eq_getElem?_getD, List.getElem?_set_ne e]
theorem BRow.of_bytes (w : World) (s : ByteArray) (cap : Nat) (t : TypeId) : BRow (w.alloc (.cells (bytesRow s cap) t ((bytesRow s cap).size, (bytesRow s cap).size + 1))) w.heap.size s.data.toList := by
 refine ⟨by simp, fun j hj => ?_⟩
 rw [Array.length_toList] at hj
 refine ⟨?_, ?_⟩
 ·
  rw [World.cell?_alloc_mark, bytesRow_at s cap j hj, List.getD_eq_getElem?_getD, List.getElem?_eq_getElem (by rw [Array.length_toList]; exact hj)]; rfl
 ·
  rw [World.frozen?_alloc_mark, Bool.and_eq_false_iff]
  left
  rw [decide_eq_false_iff_not]
  unfold bytesRow
  have hz : s.size = s.data.size := rfl
  simp
  omega
theorem BRow.string {P : Program} {w : World} {p : Nat} {l : List UInt8} (h : BRow w p l) (src e dst : TypeId) (hs : P.underlying src = some (.slice e)) (he : P.underlying e = some (.int .u8)) (hd : P.underlying dst = some .string) (n cap : Nat) (hn : n = l.length) :
  (convert src dst (.slice (some ⟨p, 0, none⟩) n cap)).run P w = .ok (.string (bs l)) w := by
 subst hn
 exact run_convert_bytes_back w src dst e ⟨p, 0, none⟩ cap l hs he hd (fun j hj => by
  rw [Addr.add_lit, Nat.zero_add, (h.2 j hj).1, List.getD_eq_getElem?_getD, List.getElem?_eq_getElem hj]; rfl)
def smTo (k : Nat) (l : List UInt8) : List UInt8 := (l.take k).map sm ++ l.drop k
theorem smTo_len (k : Nat) (l : List UInt8) : (smTo k l).length = l.length := by unfold smTo; simp; omega
theorem smTo_zero (l : List UInt8) : smTo 0 l = l := by simp [smTo]
theorem smTo_all (l : List UInt8) (k : Nat) (h : l.length ≤ k) : smTo k l = l.map sm := by simp [smTo, List.take_of_length_le h, List.drop_of_length_le h]
theorem smTo_at (k : Nat) (l : List UInt8) (h : k < l.length) : (smTo k l).getD k 0 = l[k] := by
 unfold smTo
 rw [List.getD_eq_getElem?_getD, List.getElem?_append_right (by simp; omega)]
 simp [Nat.min_eq_left (Nat.le_of_lt h), h]
theorem smTo_succ (k : Nat) (l : List UInt8) (h : k < l.length) : smTo (k + 1) l = (smTo k l).set k (sm l[k]) := by
 unfold smTo
 rw [List.set_append_right _ _ (by simp; omega)]
 simp only [List.length_map, List.length_take, Nat.min_eq_left (Nat.le_of_lt h), Nat.sub_self]
 rw [List.take_succ_eq_append_getElem h, List.map_append, List.append_assoc]
 congr 1
 rw [List.drop_eq_getElem_cons h]
 rfl
theorem smTo_same (k : Nat) (l : List UInt8) (h : k < l.length) (hs : sm l[k] = l[k]) : smTo (k + 1) l = smTo k l := by
 rw [smTo_succ k l h, hs]
 apply List.ext_getElem?
 intro i
 by_cases e : k = i
 ·
  subst e
  have := smTo_at k l h
  rw [List.getD_eq_getElem?_getD] at this
  rw [List.getElem?_set_self (by rw [smTo_len]; exact h), List.getElem?_eq_getElem (by rw [smTo_len]; exact h)]
  rw [List.getElem?_eq_getElem (by rw [smTo_len]; exact h)] at this
  simpa using this.symm
 ·
  rw [List.getElem?_set_ne e]
set_option maxHeartbeats 4000000 in
theorem small_any (s : ByteArray) (w : World) (hs : s.size ≤ 9223372036854775807) : Calls Tryd.prog 32 #[.string s] w fun e w' => Kept w w' ∧ e = .returned (.string (bs (s.data.toList.map sm))) := by
 have hcv := run_bytes_of_string (P := Tryd.prog) w 9 35 5 s Tryd.underlying9 Tryd.underlying35 Tryd.underlying5
 go_enter Tryd.func32, Tryd.ntmps32
 go_wp2_with fail
 have hB : BRow (w.alloc (.cells (bytesRow s (grownCap w s.size 0 5)) 5 ((bytesRow s (grownCap w s.size 0 5)).size, (bytesRow s (grownCap w s.size 0 5)).size + 1))).drew w.heap.size s.data.toList := BRow.of_bytes w s (grownCap w s.size 0 5) 5
 have hK := (Kept.refl w).alloc (.cells (bytesRow s (grownCap w s.size 0 5)) 5 ((bytesRow s (grownCap w s.size 0 5)).size, (bytesRow s (grownCap w s.size 0 5)).size + 1)) |>.drew
 clear hcv
 generalize (w.alloc (.cells (bytesRow s (grownCap w s.size 0 5)) 5 ((bytesRow s (grownCap w s.size 0 5)).size, (bytesRow s (grownCap w s.size 0 5)).size + 1))).drew = W at hB hK ⊢
 obtain ⟨cap, hcap⟩ : ∃ c, c = grownCap w s.size 0 5 := ⟨_, rfl⟩
 rw [← hcap]
 clear hcap
 obtain ⟨p, hp⟩ : ∃ p, p = w.heap.size := ⟨_, rfl⟩
 rw [← hp] at hB ⊢
 have hpw : w.heap.size ≤ p := by omega
 have H0 := hid' (And.intro hK (And.intro hB hpw))
 clear hp hpw hK hB
 go_loopw [10] (fun vi wr => ∃ k : Nat, k ≤ s.size ∧ vi = .int .i64 (k : Int) ∧ Hid (Kept w wr ∧ BRow wr p (smTo k s.data.toList))) (fun vi _ => s.size - (intOf vi).toNat)
 case atStart => exact ⟨0, Nat.zero_le _, rfl, H0.out.1, by rw [smTo_zero]; exact H0.out.2.1⟩
 case round =>
  obtain ⟨k, hk, rfl, H⟩ := hrel
  by_cases hlt : k < s.size
  ·
   have hi : (k : Int) < (s.size : Int) := by omega
   have hl : k < s.data.toList.length := by rw [len_list]; exact hlt
   have hc := H.out.2.2 k (by rw [smTo_len]; exact hl)
   rw [smTo_at k _ hl] at hc
   obtain ⟨c, hcc⟩ : ∃ c, c = s.data.toList[k] := ⟨_, rfl⟩
   rw [← hcc] at hc
   have HC := hid' hcc
   have c1 := hc.1
   have c2 := hc.2
   clear hc hcc
   by_cases h1 : 65 ≤ c.toNat
   ·
    have h1' : (65 : Int) ≤ (c.toNat : Int) := by omega
    by_cases h2 : c.toNat ≤ 90
    ·
     have h2' : (c.toNat : Int) ≤ 90 := by omega
     have hw : IntKind.u8.wrap ((c.toNat : Int) + 32) = ((sm c).toNat : Int) := by
      unfold sm
      rw [if_pos ⟨h1, h2⟩, UInt8.toNat_add]
      show ((c.toNat : Int) + 32) % 256 = _
      simp
     go_wp2_with fail
     go_roundw
     case rel =>
      refine ⟨k + 1, by omega, by go_num, H.out.1.setCell (p := ⟨p, k, none⟩) H0.out.2.2 _, ?_⟩
      rw [smTo_succ k _ hl, ← HC.out]
      exact H.out.2.set (by rw [smTo_len]; exact hl) (sm c) rfl
     case measure => show s.size - ((k : Int) + 1).toNat < s.size - (k : Int).toNat; omega
    ·
     have h2' : ¬ (c.toNat : Int) ≤ 90 := by omega
     have HN := hid' (show sm c = c by unfold sm; rw [if_neg (by omega)])
     go_wp2_with fail
     go_roundw
     case rel => exact ⟨k + 1, by omega, by go_num, H.out.1, by rw [smTo_same k _ hl (by rw [← HC.out]; exact HN.out)]; exact H.out.2⟩
     case measure => show s.size - ((k : Int) + 1).toNat < s.size - (k : Int).toNat; omega
   ·
    have h1' : ¬ (65 : Int) ≤ (c.toNat : Int) := by omega
    have HN := hid' (show sm c = c by unfold sm; rw [if_neg (by omega)])
    go_wp2_with fail
    go_roundw
    case rel => exact ⟨k + 1, by omega, by go_num, H.out.1, by rw [smTo_same k _ hl (by rw [← HC.out]; exact HN.out)]; exact H.out.2⟩
    case measure => show s.size - ((k : Int) + 1).toNat < s.size - (k : Int).toNat; omega
  ·
   have hi : ¬ (k : Int) < (s.size : Int) := by omega
   have hB := H.out.2
   rw [smTo_all _ k (by rw [len_list]; omega)] at hB
   have hcv := hB.string (P := Tryd.prog) 35 5 9 Tryd.underlying35 Tryd.underlying5 Tryd.underlying9 s.size cap (by rw [List.length_map, len_list])
   have HK := hid' H.out.1
   clear hB
   go_wp2_with fail
   go_ret
   exact ⟨HK.out, rfl⟩
end X
end Go.Proofs.YtbmmiepjkamaeaaDoor

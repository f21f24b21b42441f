/- shuntlaw06.LexReads, given shuntref06.Lines. -/
import Derived.Test.YtbmmiepjkamaeaaDoorGaf
import Derived.Deep.AppendLies
import Derived.Deep.Heap
namespace Go.Proofs.YtbmmiepjkamaeaaDoor
open Go.RowKit
namespace X
theorem cell_one (w : World) (x : Value) (t : TypeId) : ∀ j u, ([x] : List Value)[j]? = some u → (w.alloc (.cells #[x] t)).cell? ((⟨w.heap.size, 0, none⟩ : Addr).add j) = some u := by
 intro j u hj
 match j, hj with
 | 0, hj => simp at hj; subst hj; simp [Addr.add]
theorem al_blk (w : World) (o : Obj) {b : Nat} (hb : b < w.heap.size) : (w.alloc o).heap[b]? = w.heap[b]? := by
 show (w.heap.push _)[b]? = _
 rw [Array.getElem?_push_lt hb, Array.getElem?_eq_getElem hb]
theorem OwnL.range {B : Nat} {w w' : World} {v : Value} {told : List Ln} {vs : List Value} (h : OwnL B w v told vs) (k : ∀ b, B ≤ b → b < w.heap.size → w'.heap[b]? = w.heap[b]?) : OwnL B w' v told vs :=
 ⟨h.len, owns_block h.row (fun b hb => k b (h.row.lt b hb).1 (h.row.lt b hb).2), fun i hi => owns_block (h.own i hi) (fun b hb => k b ((h.own i hi).lt b hb).1 ((h.own i hi).lt b hb).2), h.ne, h.far, h.dis⟩
structure ML (B : Nat) (w : World) (v : Value) (n k : Nat) (ts : List Ln) (vs : List Value) : Prop where
 row : ∃ xs, w.ownsRow B 32 2 v n xs ∧ ∀ i, k ≤ i → i < n → xs[i * 2 + 1]? = some (vs.getD i undef)
 own : ∀ i, k ≤ i → i < n → OwnS B w (vs.getD i undef) (ts.getD i (0, [])).2
theorem ML.start {B n : Nat} {w : World} {v : Value} {ts : List Ln} {vs : List Value} (h : OwnL B w v ts vs) (hn : n = ts.length) : ML B w v n 0 ts vs := by
 subst hn
 exact ⟨⟨_, h.row, fun i _ hi => (lnc_at ts vs i h.len hi).2⟩, fun i _ hi => h.own i hi⟩
theorem ML.next {B n k gl gw : Nat} {w w' : World} {v : Value} {ts : List Ln} {vs xs : List Value} {a b : Value} (h : ML B w v n k ts vs) (hrow : w'.ownsRow B 32 2 v n ((xs.set (k * 2 + 1) a).set (k * 2) b))
  (hx : ∀ i, k ≤ i → i < n → xs[i * 2 + 1]? = some (vs.getD i undef)) (hb : ∀ q, q ≠ gl → q ≠ gw → q < w.heap.size → w'.heap[q]? = w.heap[q]?)
  (far : ∀ i q, i < n → (vs.getD i undef).ownBlock = some q → q ≠ gl) (dis : ∀ i q, i < n → i ≠ k → (vs.getD i undef).ownBlock = some q → q ≠ gw) : ML B w' v n (k + 1) ts vs := by
 refine ⟨⟨_, hrow, fun i hk hi => ?_⟩, fun i hk hi => ?_⟩
 ·
  rw [List.getElem?_set_ne (by omega), List.getElem?_set_ne (by omega)]
  exact hx i (by omega) hi
 ·
  have ho := h.own i (by omega) hi
  exact owns_block ho (fun q hq => hb q (far i q hi hq) (dis i q hi (by omega) hq) (ho.lt q hq).2)
structure MI (w1 w2 w5 wr : World) (v : Value) (n k : Nat) (ts : List Ln) (vs : List Value) : Prop where
 kp : Kept w1 wr
 blk : ∀ b, w2.heap.size ≤ b → b < w5.heap.size → wr.heap[b]? = w5.heap[b]?
 siz : w5.heap.size ≤ wr.heap.size
 ml : ML w1.heap.size wr v n k ts vs
structure MW (w1 wr wx : World) (gw m c : Nat) : Prop where
 kp : Kept w1 wx
 blk : ∀ b, b ≠ gw → wx.heap[b]? = wr.heap[b]?
 siz : wx.heap.size = wr.heap.size
 row : ∃ ys, wx.ownsRow w1.heap.size 9 1 (.slice (some ⟨gw, 0, none⟩) m c) m ys
set_option maxRecDepth 100000 in
set_option maxHeartbeats 8000000 in
theorem lexReads_of (s : ByteArray) (w : World) (hs : s.size ≤ 9223372036854775807) (hR0 : ∀ w : World, Calls Tryd.prog 10 #[.string s] w fun e w' => Kept w w' ∧ LnIs w.heap.size w' e (linesOf s.data.toList)) :
  Calls Tryd.prog 3 #[.string s] w fun e w' => Kept w w' ∧ e = .returned (.bool true) := by
 go_enter Tryd.func3, Tryd.ntmps3
 go_wp2_with fail
 refine (awake_any _).mono ?_
 rintro e w1 ⟨hk1, rfl⟩
 have HK1 := hid' hk1
 clear hk1
 have hL := lines_any s
 have hzx := lines_sizes s.data.toList
 generalize linesOf s.data.toList = X at hL hzx hR0
 have HR0 := hid' hR0
 have HL0 := hid' hL
 have HZ := hid' hzx
 clear hR0 hL hzx
 go_wp2_with fail
 refine (HL0.out w1 hs).mono ?_
 rintro e w2 ⟨hk2, v1, vs, rfl, own1⟩
 have H2 := hid' (And.intro hk2 own1)
 clear hk2 own1
 go_wp2_with fail
 refine (HL0.out w2 hs).mono ?_
 rintro e w3 ⟨hk3, v2, vs2, rfl, own2⟩
 have H3 := hid' (And.intro hk3 own2)
 clear hk3 own2
 go_wp2_with fail
 refine (HR0.out w3).mono ?_
 rintro e w4 ⟨hk4, v3, vs3, rfl, own3⟩
 have H4 := hid' (And.intro hk4 own3)
 clear hk4 own3
 go_wp2_with fail
 refine (same_any _ _ X.1 X.1 _ (H2.out.2.kept (H3.out.1.trans H4.out.1)).rl H4.out.2.rl (by have := HZ.out.1; omega) (fun x hx => by have := HZ.out.2.2 x hx; omega)).mono ?_
 rintro e w5 ⟨hk5, rfl⟩
 rw [decide_eq_true rfl]
 have H5 := hid' hk5
 obtain ⟨n, hn⟩ : ∃ n, n = X.1.length := ⟨_, rfl⟩
 obtain ⟨ao, cap, rfl⟩ := H2.out.2.shape
 rw [← hn] at H2 ⊢
 have hn7 : n ≤ 70000 := by rw [hn]; exact HZ.out.1
 have HN := hid' hn
 have HS : Hid (MI w1 w2 w5 w5 (.slice ao n cap) n 0 X.1 vs) := ⟨H2.out.1.trans (H3.out.1.trans (H4.out.1.trans H5.out)), fun _ _ _ => rfl, Nat.le_refl _, ML.start (H2.out.2.kept (H3.out.1.trans (H4.out.1.trans H5.out))) HN.out⟩
 have HB5 := hid' (show w2.heap.size ≤ w5.heap.size from (H3.out.1.trans (H4.out.1.trans H5.out)).size)
 clear hk5 hn
 obtain ⟨i0, hi0, hz0, hz1, hz2⟩ := info_parts info_str
 have HI0 := hid' (And.intro hi0 (And.intro hz0 (And.intro hz1 hz2)))
 clear hi0 hz0 hz1 hz2
 generalize (X.2.1 : Int) = p at *
 generalize (X.2.2 : Int) = f at *
 go_wp2_with fail
 go_loopw [50] (fun vi wr => ∃ k : Nat, k ≤ n ∧ vi = .int .i64 (k : Int) ∧ Hid (MI w1 w2 w5 wr (.slice ao n cap) n k X.1 vs)) (fun vi _ => n - (intOf vi).toNat)
 case atStart => exact ⟨0, Nat.zero_le _, rfl, HS.out⟩
 case round =>
  obtain ⟨k, hk, rfl, H⟩ := hrel
  by_cases hlt : k < n
  ·
   have hi : (k : Int) < (n : Int) := by omega
   obtain ⟨W0, hW0⟩ : ∃ W0, W0 = wr := ⟨_, rfl⟩
   subst hW0
   obtain ⟨xs, hrow, hxs⟩ := H.out.ml.row
   obtain ⟨gl, cap', hv, hglB, hgll⟩ := hrow.form (by omega)
   simp only [Value.slice.injEq] at hv
   obtain ⟨rfl, _, rfl⟩ := hv
   have hkx : k < X.1.length := by rw [← HN.out]; exact hlt
   have q1 := owns_cell hrow (hxs k (Nat.le_refl _) hlt)
   have hown := H.out.ml.own k (Nat.le_refl _) hlt
   obtain ⟨gw, c, hvk, hgwB, hgwl, hmc, _, _⟩ := hown.read (List.length_pos_iff.2 (H2.out.2.ne k hkx))
   have hfar := fun q (h : (vs.getD k undef).ownBlock = some q) => H2.out.2.far k q hkx h
   have hm6 : ((X.1.getD k (0, [])).2).length ≤ 64 := HZ.out.2.2 _ (by
    rw [List.getD_eq_getElem?_getD, List.getElem?_eq_getElem hkx]
    exact List.getElem_mem hkx)
   have hw2 : gl < w2.heap.size ∧ gw < w2.heap.size := ⟨(H2.out.2.row.lt gl rfl).2, ((H2.out.2.own k hkx).lt gw (by rw [hvk]; rfl)).2⟩
   have hds := fun i q (hi : i < X.1.length) (hik : i ≠ k) (hq : (vs.getD i undef).ownBlock = some q) => H2.out.2.dis i k q hi hkx hik hq
   rw [hvk] at q1 hown hfar hds
   have hne : ¬ gl = gw := fun e => hfar gw rfl (by rw [← e]; rfl)
   unfold OwnS at hown
   generalize ((X.1.getD k (0, [])).2) = yw at hown hm6 hvk hmc q1 hfar hds
   obtain ⟨m, hm⟩ : ∃ m, m = yw.length := ⟨_, rfl⟩
   rw [← hm] at hown hm6 hmc q1
   have HM0 : Hid (MW w1 W0 W0 gw m c) := ⟨H.out.kp, fun _ _ => rfl, rfl, _, hown⟩
   have HX := hid' (And.intro hrow (And.intro hxs (And.intro hglB (And.intro hgll (And.intro hgwB (And.intro hgwl (And.intro hw2 (And.intro hmc (fun i q (hi : i < X.1.length) (hik : i ≠ k) (hq : (vs.getD i undef).ownBlock = some q) (e : q = gw) => hds i q hi hik hq (by rw [e]; rfl))))))))))
   clear hrow hxs hglB hgll hgwB hgwl hw2 hmc hown hvk hfar hds hm
   go_wp2_with fail
   go_loopw [59] (fun vi wx => ∃ j : Nat, j ≤ m ∧ vi = .int .i64 (j : Int) ∧ Hid (MW w1 W0 wx gw m c)) (fun vi _ => m - (intOf vi).toNat)
   case atStart => exact ⟨0, Nat.zero_le _, rfl, HM0.out⟩
   case round =>
    obtain ⟨j, hj, rfl, HI⟩ := hrel
    have p1 := (World.cell?_of_block (a := ⟨gl, k * 2 + 1, none⟩) (HI.out.blk gl hne)).trans q1
    obtain ⟨ys, hys⟩ := HI.out.row
    by_cases hltj : j < m
    ·
     have hij : (j : Int) < (m : Int) := by omega
     obtain ⟨u, hu⟩ : ∃ u, ys[j]? = some u := ⟨_, List.getElem?_eq_getElem (by rw [hys.1]; omega)⟩
     have p2 := owns_cell hys hu
     have p3 := owns_frozen hys j
     have HJ : Hid (MW w1 W0 (wr.setCell ⟨gw, j, none⟩ (.string ⟨#[33]⟩)) gw m c) := ⟨HI.out.kp.setCell (p := ⟨gw, j, none⟩) HX.out.2.2.2.2.1 _, fun b hb => (Deep.blk_setCell_other _ _ _ _ hb).trans (HI.out.blk b hb), by rw [Deep.nblk_setCell]; exact HI.out.siz, _, owns_set hys j _⟩
     clear hys hu
     go_wp2_with fail
     go_roundw
     case rel => exact ⟨j + 1, by omega, by go_num, HJ.out⟩
     case measure => show m - ((j : Int) + 1).toNat < m - (j : Int).toNat; omega
    ·
     have hij : ¬ (j : Int) < (m : Int) := by omega
     have hml : m + 1 ≤ maxLen := by unfold maxLen; omega
     have hsz : w1.heap.size ≤ (wr.alloc (.cells #[.string ⟨#[63]⟩] 9)).heap.size := by have := HI.out.kp.size; simp; omega
     have HY := hid' hys
     clear hys
     go_wp2_with (at_builtin; refine wpList_append_lies _ rfl _ _ 30 rfl w1.heap.size 9 i0 (.string ByteArray.empty) 1 16 und_strs HI0.out.1 HI0.out.2.1 HI0.out.2.2.1 HI0.out.2.2.2 rfl (by decide) _ m ys rfl (HY.out.alloc _) ⟨wr.heap.size, 0, none⟩ 1 1 [.string ⟨#[63]⟩] rfl rfl (cell_one wr _ _) (fun x hx => by simp at hx; rcases hx with rfl; rfl) (by omega) hml (by omega) (by exact hsz) _ rfl ?_)
     intro g cap' w6 hown' hgrow hgg hglt
     have hsw := HI.out.siz
     have b6 : ∀ b, b ≠ gw → b < W0.heap.size → w6.heap[b]? = W0.heap[b]? := fun b hb hl => ((hgrow.block b (by simp; omega) (fun e => hb (by simpa [Value.ownBlock] using e))).trans (al_blk _ _ (by omega))).trans (HI.out.blk b hb)
     have hrow6 : w6.ownsRow w1.heap.size 32 2 (.slice (some ⟨gl, 0, none⟩) n cap) n xs := owns_block HX.out.1 (fun b hb => by
      have e : gl = b := by simpa [Value.ownBlock] using hb
      subst e
      exact b6 gl hne HX.out.2.2.2.1)
     have K6 : Kept w1 w6 := Below.grown (HI.out.kp.alloc _) hgrow (by exact hsz) (fun i hi => by
      have e : gw = i := by simpa [Value.ownBlock] using hi
      subst e
      exact HX.out.2.2.2.2.1)
     have p1 := owns_cell hrow6 (HX.out.2.1 k (Nat.le_refl _) hlt)
     have p3 := owns_frozen hrow6 (k * 2 + 1)
     have hs6 : W0.heap.size ≤ w6.heap.size := by have := hgrow.size; simp at this; omega
     have HR6 := hid' hrow6
     have HB6 := hid' (And.intro b6 (And.intro K6 hs6))
     clear hown' hgrow hgg hglt hsw hsz hml b6 hrow6 K6 hs6 HY
     go_upto_region 17 with fail
     have hrow7 := owns_set HR6.out (k * 2 + 1) (.slice (some ⟨g, 0, none⟩) (m + 1) cap')
     obtain ⟨u, hu⟩ : ∃ u, (xs.set (k * 2 + 1) (.slice (some ⟨g, 0, none⟩) (m + 1) cap'))[k * 2]? = some u := ⟨_, List.getElem?_eq_getElem (by rw [hrow7.1]; omega)⟩
     have q2 := owns_cell hrow7 hu
     have q3 := owns_frozen hrow7 (k * 2)
     have HM7 : Hid (MI w1 w2 w5 ((w6.setCell ⟨gl, k * 2 + 1, none⟩ (.slice (some ⟨g, 0, none⟩) (m + 1) cap')).setCell ⟨gl, k * 2, none⟩ (.int .i64 (-1))) (.slice (some ⟨gl, 0, none⟩) n cap) n (k + 1) X.1 vs) := by
      have hbb : ∀ q, q ≠ gl → q ≠ gw → q < W0.heap.size → ((w6.setCell ⟨gl, k * 2 + 1, none⟩ (.slice (some ⟨g, 0, none⟩) (m + 1) cap')).setCell ⟨gl, k * 2, none⟩ (.int .i64 (-1))).heap[q]? = W0.heap[q]? := fun q h1 h2 h3 =>
       ((Deep.blk_setCell_other _ _ _ _ h1).trans (Deep.blk_setCell_other _ _ _ _ h1)).trans (HB6.out.1 q h2 h3)
      refine ⟨(HB6.out.2.1.setCell (p := ⟨gl, k * 2 + 1, none⟩) HX.out.2.2.1 _).setCell (p := ⟨gl, k * 2, none⟩) HX.out.2.2.1 _, fun b h1 h2 => ?_, ?_, ?_⟩
      ·
       have h4 := HX.out.2.2.2.2.2.2.1
       have h5 := H.out.siz
       exact (hbb b (by omega) (by omega) (by omega)).trans (H.out.blk b h1 h2)
      ·
       rw [Deep.nblk_setCell, Deep.nblk_setCell]
       have h5 := H.out.siz
       have h6 := HB6.out.2.2
       omega
      ·
       refine ML.next (gl := gl) (gw := gw) H.out.ml (owns_set hrow7 (k * 2) _) HX.out.2.1 hbb (fun i q hi hq e => ?_) (fun i q hi hik hq e => HX.out.2.2.2.2.2.2.2.2 i q (by rw [← HN.out]; exact hi) hik hq e)
       exact H2.out.2.far i q (by rw [← HN.out]; exact hi) hq (by rw [e]; rfl)
     clear hrow7 hu p1 p3 q1
     generalize w6.setCell ⟨gl, k * 2 + 1, none⟩ (.slice (some ⟨g, 0, none⟩) (m + 1) cap') = w7 at *
     go_wp2_with fail
     refine ⟨?rel, ?measure⟩
     case rel => exact ⟨k + 1, by omega, by go_num, HM7.out⟩
     case measure => show n - ((k : Int) + 1).toNat < n - (k : Int).toNat; omega
  ·
   have hi : ¬ (k : Int) < (n : Int) := by omega
   have hb5 := fun (b : Nat) (h1 : w2.heap.size ≤ b) (h2 : b < w5.heap.size) => H.out.blk b h1 h2
   have own2 := (H3.out.2.kept (H4.out.1.trans H5.out)).range hb5
   have own3 := (H4.out.2.kept H5.out).range (w' := wr) (fun b h1 h2 => hb5 b (by have := H3.out.1.size; omega) h2)
   have HE := hid' (And.intro own2.rl own3.rl)
   clear own2 own3 hb5
   go_wp2_with fail
   refine (same_any _ _ X.1 X.1 _ HE.out.1 HE.out.2 (by have := HZ.out.1; omega) (fun x hx => by have := HZ.out.2.2 x hx; omega)).mono ?_
   rintro e w8 ⟨hk8, rfl⟩
   rw [decide_eq_true rfl]
   have H8 := hid' hk8
   clear hk8
   go_wp2_with fail
   go_ret
   exact ⟨HK1.out.trans (H.out.kp.trans H8.out), rfl⟩
end X
end Go.Proofs.YtbmmiepjkamaeaaDoor

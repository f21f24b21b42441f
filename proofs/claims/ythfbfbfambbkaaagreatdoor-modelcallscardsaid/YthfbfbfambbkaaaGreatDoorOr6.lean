/- lent of package shuntlaw05. -/
import Derived.Test.YthfbfbfambbkaaaGreatDoorGat
namespace Go.Proofs.YthfbfbfambbkaaaGreatDoor
open Go.RowKit
namespace V
open Q (hid' Row3 Row2 okN)
theorem addB (a:Addr) (n:Nat):(a.add n).block = a.block:=by unfold Addr.add; split <;> rfl
theorem info_num:(Tryz.prog.info? 48).map (fun i => (i.zero,i.size,i.bytes)) = some (some (.agg #[.int .i64 0,.int .i64 0]),2,16):=by kernel_rfl
theorem und_nums:Tryz.prog.underlying 22 = some (.slice 48):=by kernel_rfl
def nums (vs:List (Int × Int)):List Value:=vs.flatMap fun p => [.int .i64 p.1,.int .i64 p.2]
theorem nums_len (vs:List (Int × Int)):(nums vs).length = vs.length * 2:=by
 induction vs with
 | nil => rfl
 | cons p vs ih => simp only [nums,List.flatMap_cons,List.length_append,List.length_cons,List.length_nil] at ih ⊢; omega
theorem nums_one (vs:List (Int × Int)):∀ u ∈ nums vs,u.oneCell' = true:=by
 intro u hu
 simp only [nums,List.mem_flatMap] at hu
 obtain ⟨p,_,hp⟩:=hu
 simp at hp
 rcases hp with rfl | rfl <;> rfl
theorem nums_get (vs:List (Int × Int)):∀ j,j < vs.length→(nums vs)[j * 2]? = some (.int .i64 (vs.getD j (0,0)).1)∧(nums vs)[j * 2 + 1]? = some (.int .i64 (vs.getD j (0,0)).2):=by
 induction vs with
 | nil => intro j hj; cases hj
 | cons p vs ih =>
  intro j hj
  cases j with
  | zero => exact ⟨rfl,rfl⟩
  | succ j =>
   have:=ih j (by simpa using hj)
   rw [show (j + 1) * 2 = j * 2 + 1 + 1 by omega]
   exact this
theorem NSl.src {w:World} {ao:Option Addr} {n c:Nat} {vs:List (Int × Int)} (h:NSl w (.slice ao n c) vs):n = vs.length∧(0 < n→∃ ad:Addr,ao = some ad∧ad.block < w.heap.size∧∀ j u,(nums vs)[j]? = some u→w.cell? (ad.add j) = some u):=by
 obtain ⟨ao',cap,he,hx⟩:=h
 simp only [Value.slice.injEq] at he
 obtain ⟨rfl,rfl,rfl⟩:=he
 refine ⟨rfl,fun h0 => ?_⟩
 obtain ⟨b,off,rfl,hb,hc⟩:=hx h0
 refine ⟨_,rfl,hb,fun j u hu => ?_⟩
 have hj:=(List.getElem?_eq_some_iff.1 hu).1
 rw [nums_len] at hj
 rw [Addr.add_lit]
 have hd:j / 2 < vs.length:=by omega
 have hg:=nums_get vs (j / 2) hd
 rcases Nat.mod_two_eq_zero_or_one j with e | e
 ·
  have hjj:j / 2 * 2 = j:=by omega
  rw [hjj] at hg
  have h2:=(hc (j / 2) hd).1
  rw [hjj] at h2
  rw [h2,← hg.1,hu]
 ·
  have hjj:j / 2 * 2 + 1 = j:=by omega
  rw [hjj] at hg
  have h2:=(hc (j / 2) hd).2
  rw [Nat.add_assoc,hjj] at h2
  rw [h2,← hg.2,hu]
theorem mark2 (t:TypeId) (w:World) (x y:Value):∀ j u,([x,y]:List Value)[j]? = some u→(w.alloc (.cells #[x,y] t)).cell? ((⟨w.heap.size,0,none⟩:Addr).add j) = some u:=by
 intro j u hj
 match j,hj with
 | 0,hj => simp at hj; subst hj; simp [Addr.add]
 | 1,hj => simp at hj; subst hj; simp [Addr.add]
theorem marks_kept {w w':World} {b:Nat} {l:List Value} (h:∀ j u,l[j]? = some u→w.cell? ((⟨b,0,none⟩:Addr).add j) = some u) (k:w'.heap[b]? = w.heap[b]?):∀ j u,l[j]? = some u→w'.cell? ((⟨b,0,none⟩:Addr).add j) = some u :=
 fun j u hu => (World.cell?_of_block (a:=(⟨b,0,none⟩:Addr).add j) (by rw [addB]; exact k)).trans (h j u hu)
theorem heap_alloc_lt' (w:World) (o:Obj) (b:Nat) (h:b < w.heap.size):(w.alloc o).heap[b]? = w.heap[b]?:=by
 show (w.heap.push _)[b]? = _
 rw [Array.getElem?_push_lt h]; simp [h]
structure Half (w W wc:World) (p q:Nat) (s:ByteArray) (k:Int) (x1 x2:Value) (g:Nat) (t:TypeId) (sz n cap:Nat) (xs:List Value) (f:Nat→Value):Prop where
 kp:Kept w wc
 szw:W.heap.size≤wc.heap.size
 oth:∀ b,b < W.heap.size→¬ b = p→wc.heap[b]? = W.heap[b]?
 rp:Row4 24 wc p (.string s) (.int .u8 k) x1 x2
 rq:Row4 24 wc q (.string ⟨#[]⟩) (.int .u8 0) (.slice none 0 0) (.slice none 0 0)
 gb:W.heap.size≤g
 gc:n + 1≤cap
 r:wc.rowIs g t (cap * sz) f
 v:∀ i u,xs[i]? = some u→f i = u
theorem Row4.fz {t:TypeId} {w:World} {p:Nat} {x0 x1 x2 x3:Value} (h:Row4 t w p x0 x1 x2 x3) (o:Nat):w.frozen? ⟨p,o,none⟩ = false:=World.rowIs.frozen h o
theorem half_of2 {w W V:World} {p q:Nat} {s:ByteArray} {k:Int} {x1 x2:Value} {g:Nat} {t:TypeId} {sz n cap:Nat} {xs:List Value} {f:Nat→Value}
  (h:Kept w W∧w.heap.size≤p∧p < W.heap.size∧¬ q = p∧Row4 24 W q (.string ⟨#[]⟩) (.int .u8 0) (.slice none 0 0) (.slice none 0 0)) (hp:Row4 24 V p (.string s) (.int .u8 k) x1 x2) (K:Kept W V) (gb:W.heap.size≤g) (gc:n + 1≤cap) (gr:V.rowIs g t (cap * sz) f) (gv:∀ i u,xs[i]? = some u→f i = u) :
  Half w W (V.setCell ⟨p,2,none⟩ (.slice (some ⟨g,0,none⟩) n cap)) p q s k (.slice (some ⟨g,0,none⟩) n cap) x2 g t sz n cap xs f :=
 ⟨(h.1.trans K).setCell (p:=⟨p,2,none⟩) h.2.1 _,by simpa using K.size,fun b hb hne => (Deep.blk_setCell_other _ _ _ _ hne).trans (K.block b hb),(World.rowIs.set hp 2 _).congr (fun i hi => by
  rcases (show i = 0 ∨ i = 1 ∨ i = 2 ∨ i = 3 by omega) with rfl | rfl | rfl | rfl <;> rfl),World.rowIs.setOther (h.2.2.2.2.kept K) h.2.2.2.1 _,gb,gc,World.rowIs.setOther gr (show ¬ g = p by have:=h.2.2.1; omega) _,gv⟩
theorem half_of3 {w W V:World} {p q:Nat} {s:ByteArray} {k:Int} {x1 x2:Value} {g:Nat} {t:TypeId} {sz n cap:Nat} {xs:List Value} {f:Nat→Value}
  (h:Kept w W∧w.heap.size≤p∧p < W.heap.size∧¬ q = p∧Row4 24 W q (.string ⟨#[]⟩) (.int .u8 0) (.slice none 0 0) (.slice none 0 0)) (hp:Row4 24 V p (.string s) (.int .u8 k) x1 x2) (K:Kept W V) (gb:W.heap.size≤g) (gc:n + 1≤cap) (gr:V.rowIs g t (cap * sz) f) (gv:∀ i u,xs[i]? = some u→f i = u) :
  Half w W (V.setCell ⟨p,3,none⟩ (.slice (some ⟨g,0,none⟩) n cap)) p q s k x1 (.slice (some ⟨g,0,none⟩) n cap) g t sz n cap xs f :=
 ⟨(h.1.trans K).setCell (p:=⟨p,3,none⟩) h.2.1 _,by simpa using K.size,fun b hb hne => (Deep.blk_setCell_other _ _ _ _ hne).trans (K.block b hb),(World.rowIs.set hp 3 _).congr (fun i hi => by
  rcases (show i = 0 ∨ i = 1 ∨ i = 2 ∨ i = 3 by omega) with rfl | rfl | rfl | rfl <;> rfl),World.rowIs.setOther (h.2.2.2.2.kept K) h.2.2.2.1 _,gb,gc,World.rowIs.setOther gr (show ¬ g = p by have:=h.2.2.1; omega) _,gv⟩
structure LentM (B:Nat) (w:World) (g1 cap1 g2 cap2 n m:Nat) (gs vs:List (Int × Int)) (f1 f2:Nat→Value):Prop where
 b1:B≤g1
 b2:B≤g2
 c1:n + 1≤cap1
 c2:m + 1≤cap2
 n1:n = gs.length
 n2:m = vs.length
 r1:w.rowIs g1 48 (cap1 * 2) f1
 r2:w.rowIs g2 48 (cap2 * 2) f2
 v1:∀ j,j < n→f1 (j * 2) = .int .i64 (gs.getD j (0,0)).1∧f1 (j * 2 + 1) = .int .i64 (gs.getD j (0,0)).2
 v2:∀ j,j < m→f2 (j * 2) = .int .i64 (vs.getD j (0,0)).1∧f2 (j * 2 + 1) = .int .i64 (vs.getD j (0,0)).2
 m1:f1 (n * 2) = .int .i64 77
 m2:f2 (m * 2) = .int .i64 78
theorem lent_nsl {w:World} {g cap n:Nat} {vs:List (Int × Int)} {f:Nat→Value} (hn:n = vs.length) (hc:n + 1≤cap) (r:w.rowIs g 48 (cap * 2) f) (v:∀ j,j < n→f (j * 2) = .int .i64 (vs.getD j (0,0)).1∧f (j * 2 + 1) = .int .i64 (vs.getD j (0,0)).2):NSl w (.slice (some ⟨g,0,none⟩) n cap) vs :=
 ⟨_,cap,by rw [hn],fun h0 => ⟨g,0,rfl,r.lt,fun j hj => by
  rw [Nat.zero_add]
  exact ⟨(r.cell (i:=j * 2) (by omega)).trans (by rw [(v j (by omega)).1]),(r.cell (i:=j * 2 + 1) (by omega)).trans (by rw [(v j (by omega)).2])⟩⟩⟩
theorem LentM.nsl1 {B:Nat} {w:World} {g1 cap1 g2 cap2 n m:Nat} {gs vs:List (Int × Int)} {f1 f2:Nat→Value} (h:LentM B w g1 cap1 g2 cap2 n m gs vs f1 f2):NSl w (.slice (some ⟨g1,0,none⟩) n cap1) gs:=lent_nsl h.n1 h.c1 h.r1 h.v1
theorem LentM.nsl2 {B:Nat} {w:World} {g1 cap1 g2 cap2 n m:Nat} {gs vs:List (Int × Int)} {f1 f2:Nat→Value} (h:LentM B w g1 cap1 g2 cap2 n m gs vs f1 f2):NSl w (.slice (some ⟨g2,0,none⟩) m cap2) vs:=lent_nsl h.n2 h.c2 h.r2 h.v2
theorem LentM.kept {B:Nat} {w w':World} {g1 cap1 g2 cap2 n m:Nat} {gs vs:List (Int × Int)} {f1 f2:Nat→Value} (h:LentM B w g1 cap1 g2 cap2 n m gs vs f1 f2) (k:Kept w w'):LentM B w' g1 cap1 g2 cap2 n m gs vs f1 f2 :=
 ⟨h.b1,h.b2,h.c1,h.c2,h.n1,h.n2,h.r1.of_block (k.block g1 h.r1.lt),h.r2.of_block (k.block g2 h.r2.lt),h.v1,h.v2,h.m1,h.m2⟩
theorem lent_end {w wb wd:World} {p q:Nat} {s:ByteArray} {k:Int} {y1 y2:Value} {g1 cap1 g2 cap2 n m:Nat} {gs vs:List (Int × Int)} {f1 f2:Nat→Value} (hq:w.heap.size≤q) (hn:n = gs.length) (hm:m = vs.length)
  (hP:Row4 24 wb p (.string s) (.int .u8 k) (.slice (some ⟨g1,0,none⟩) n cap1) y2∧Kept w wb∧w.heap.size≤p∧p < wb.heap.size∧¬ q = p∧Row4 24 wb q (.string ⟨#[]⟩) (.int .u8 0) (.slice none 0 0) (.slice none 0 0))
  (hG:w.heap.size≤g1∧¬ g1 = q∧n + 1≤cap1∧wb.rowIs g1 48 (cap1 * 2) f1∧∀ i u,(nums gs ++ [.int .i64 77,.int .i64 0])[i]? = some u→f1 i = u) (hgp:¬ g1 = p)
  (h:Half w wb wd p q s k (.slice (some ⟨g1,0,none⟩) n cap1) y1 g2 48 2 m cap2 (nums vs ++ [.int .i64 78,.int .i64 0]) f2) (x0 x1 x2 x3:Value) :
  Kept w ((((wd.setCell ⟨q,0,none⟩ x0).setCell ⟨q,1,none⟩ x1).setCell ⟨q,2,none⟩ x2).setCell ⟨q,3,none⟩ x3)∧LentM w.heap.size ((((wd.setCell ⟨q,0,none⟩ x0).setCell ⟨q,1,none⟩ x1).setCell ⟨q,2,none⟩ x2).setCell ⟨q,3,none⟩ x3) g1 cap1 g2 cap2 n m gs vs f1 f2:=by
 have hqb:=hP.2.2.2.2.2.lt
 have g2b:=h.gb
 have hgb:=hG.2.2.2.1.lt
 have g2q:¬ g2 = q:=by omega
 have ks:=hP.2.1.size
 refine ⟨kept_set4 h.kp hq _ _ _ _,hG.1,by omega,hG.2.2.1,h.gc,hn,hm,?_,?_,?_,?_,?_,?_⟩
 ·
  exact (((((hG.2.2.2.1.of_block (h.oth g1 hgb hgp)).setOther hG.2.1 _).setOther hG.2.1 _).setOther hG.2.1 _).setOther hG.2.1 _)
 ·
  exact ((((h.r.setOther g2q _).setOther g2q _).setOther g2q _).setOther g2q _)
 ·
  intro j hj
  have hg:=nums_get gs j (by omega)
  have hl:=nums_len gs
  exact ⟨hG.2.2.2.2 _ _ (by rw [List.getElem?_append_left (by omega)]; exact hg.1),hG.2.2.2.2 _ _ (by rw [List.getElem?_append_left (by omega)]; exact hg.2)⟩
 ·
  intro j hj
  have hg:=nums_get vs j (by omega)
  have hl:=nums_len vs
  exact ⟨h.v _ _ (by rw [List.getElem?_append_left (by omega)]; exact hg.1),h.v _ _ (by rw [List.getElem?_append_left (by omega)]; exact hg.2)⟩
 ·
  have hl:=nums_len gs
  exact hG.2.2.2.2 _ _ (by rw [List.getElem?_append_right (by omega),hl,hn,Nat.sub_self]; rfl)
 ·
  have hl:=nums_len vs
  exact h.v _ _ (by rw [List.getElem?_append_right (by omega),hl,hm,Nat.sub_self]; rfl)
set_option maxRecDepth 100000 in
set_option maxHeartbeats 8000000 in
theorem lentM_any (s:ByteArray) (k:Int) (a1 a2:Option Addr) (n c m c':Nat) (gs vs:List (Int × Int)) (w:World) (h1:NSl w (.slice a1 n c) gs) (h2:NSl w (.slice a2 m c') vs) (hn:(n + 1) * 16≤140737488355328) (hm:(m + 1) * 16≤140737488355328) :
  Calls Tryz.prog 8 #[.agg #[.string s,.int .u8 k,.slice a1 n c,.slice a2 m c']] w fun e w' => Kept w w'∧∃ g1 cap1 g2 cap2 f1 f2,e = .returned (.agg #[.string s,.int .u8 k,.slice (some ⟨g1,0,none⟩) n cap1,.slice (some ⟨g2,0,none⟩) m cap2])∧LentM w.heap.size w' g1 cap1 g2 cap2 n m gs vs f1 f2:=by
 have HS:=hid' (And.intro h1 h2)
 clear h1 h2
 go_enter Tryz.func8,Tryz.ntmps8
 go_upto_region 1 with fail
 have hK:=((Kept.refl w).alloc (.cells #[.string s,.int .u8 k,.slice a1 n c,.slice a2 m c'] 24)).alloc (.cells #[.string ⟨#[]⟩,.int .u8 0,.slice none 0 0,.slice none 0 0] 24)
 have hR:=(Row4.alloc 24 w (.string s) (.int .u8 k) (.slice a1 n c) (.slice a2 m c')).kept ((Kept.refl _).alloc (.cells #[.string ⟨#[]⟩,.int .u8 0,.slice none 0 0,.slice none 0 0] 24))
 have hV:=Row4.alloc 24 (w.alloc (.cells #[.string s,.int .u8 k,.slice a1 n c,.slice a2 m c'] 24)) (.string ⟨#[]⟩) (.int .u8 0) (.slice none 0 0) (.slice none 0 0)
 rw [World.size_alloc] at hV
 have hqw:w.heap.size≤w.heap.size + 1:=Nat.le_succ _
 have hpq:¬ w.heap.size + 1 = w.heap.size:=by omega
 generalize (w.alloc (.cells #[.string s,.int .u8 k,.slice a1 n c,.slice a2 m c'] 24)).alloc (.cells #[.string ⟨#[]⟩,.int .u8 0,.slice none 0 0,.slice none 0 0] 24) = W0 at hK hR hV ⊢
 obtain ⟨q,hq⟩:∃ p,p = w.heap.size + 1:=⟨_,rfl⟩
 rw [← hq] at hV hqw hpq ⊢
 obtain ⟨p,hp⟩:∃ p,w.heap.size = p:=⟨_,rfl⟩
 rw [hp] at hR hpq ⊢
 have hpw:w.heap.size≤p:=by omega
 have HP:=hid' (And.intro hR (And.intro hK (And.intro hpw (And.intro hR.lt (And.intro hpq hV)))))
 have HQ:=hid' hqw
 clear hp hq hK hR hV hpw hqw hpq
 have hln:(nums gs).length = n * 2:=by rw [nums_len,← (NSl.src HS.out.1).1]
 have h63:n≤maxLen:=by unfold maxLen; omega
 have h63':n + 1≤maxLen:=by unfold maxLen; omega
 have hsrc:Hid (0 < n→∃ ad:Addr,a1 = some ad∧ad.block < W0.heap.size∧∀ j u,(nums gs)[j]? = some u→W0.cell? (ad.add j) = some u):=(NSl.src (HS.out.1.kept HP.out.2.1)).2
 go_cut [13] (fun s13 wc => ∃ g cap f,s13 = .slice (some ⟨g,0,none⟩) n cap∧Hid (Half w W0 wc p q s k (.slice (some ⟨g,0,none⟩) n cap) (.slice a2 m c') g 48 2 n cap (nums gs ++ [.int .i64 77,.int .i64 0]) f))
 case first =>
  obtain ⟨i0,hi,hz0,hz1,hz2⟩:=info_parts info_num
  have sS:=hid' (fun (V:World) (K:Kept W0 V) => And.intro ((HP.out.1.kept K).c1) ((HP.out.1.kept K).c2))
  have KT:Kept W0 W0.drew:=(Kept.refl _).drew
  refine region_z 12 (S:=fun w' => w'.cell? ⟨p,1,none⟩ = some (.int .u8 k)∧w'.cell? ⟨p,2,none⟩ = some (.slice a1 n c)) (by kernel_rfl) (sS.out _ KT) (fun hHeld => ?_)
  generalize W0.drew = Wd at KT hHeld ⊢
  refine anyZ_take (i:=1) (v:=?vxt1) rfl (by kernel_rfl) (by kernel_rfl) (by kernel_rfl) (by kernel_rfl) (fun _ _ _ h => h) (Or.inl ⟨by rfl,?yxt1⟩) hHeld ?rxt1
  case yxt1 =>
   intro w' hSw
   obtain ⟨hSw0,hSw1⟩:=hSw
   go_simp
   with_reducible rfl
  case rxt1 =>
  refine anyZ_take (i:=2) (v:=?vxt2) rfl (by kernel_rfl) (by kernel_rfl) (by kernel_rfl) (by kernel_rfl) (fun _ _ _ h => h) (Or.inl ⟨by rfl,?yxt2⟩) hHeld ?rxt2
  case yxt2 =>
   intro w' hSw
   obtain ⟨hSw0,hSw1⟩:=hSw
   go_simp
   with_reducible rfl
  case rxt2 =>
  refine anyZ_take (i:=4) (v:=?vxt4) rfl (by kernel_rfl) (by kernel_rfl) (by kernel_rfl) (by kernel_rfl) (fun _ _ _ h => h) (Or.inl ⟨by rfl,?yxt4⟩) hHeld ?rxt4
  case yxt4 =>
   intro w' hSw
   obtain ⟨hSw0,hSw1⟩:=hSw
   go_simp
   with_reducible rfl
  case rxt4 =>
  refine anyZ_take (i:=7) (v:=?vxt7) rfl (by kernel_rfl) (by kernel_rfl) (by kernel_rfl) (by kernel_rfl) (fun _ _ _ h => h) (Or.inl ⟨by rfl,?yxt7⟩) hHeld ?rxt7
  case yxt7 =>
   intro w' hSw
   obtain ⟨hSw0,hSw1⟩:=hSw
   go_simp
   with_reducible rfl
  case rxt7 =>
  refine anyZ_take (i:=8) (v:=?vxt8) rfl (by kernel_rfl) (by kernel_rfl) (by kernel_rfl) (by kernel_rfl) (fun _ _ _ h => h) (Or.inl ⟨by rfl,?yxt8⟩) hHeld ?rxt8
  case yxt8 =>
   intro w' hSw
   obtain ⟨hSw0,hSw1⟩:=hSw
   go_simp
   with_reducible rfl
  case rxt8 =>
  refine anyZ_take (i:=9) (v:=?vxt9) rfl (by kernel_rfl) (by kernel_rfl) (by kernel_rfl) (by kernel_rfl) (fun _ _ _ h => h) (Or.inl ⟨by rfl,?yxt9⟩) hHeld ?rxt9
  case yxt9 =>
   intro w' hSw
   obtain ⟨hSw0,hSw1⟩:=hSw
   go_simp
   with_reducible rfl
  case rxt9 =>
  refine anyZ_ready (rs:=[0,5]) (by kernel_rfl) (by simp) ?_
  refine AllZ.cons rfl (fun K hK => ?_) ?_
  ·
   skip
   go_simp
   refine hK.out _ _ (sS.out _ (KT.alloc _)) (fun hHeld => ?_)
   clear hK K
   have own:=own_nil 48 2 Wd W0.heap.size KT.size
   have g0b:W0.heap.size≤Wd.heap.size:=KT.size
   have g0l:Wd.heap.size < (Wd.alloc (.cells #[] 48)).heap.size:=by simp
   have KT:=KT.alloc (.cells #[] 48)
   obtain ⟨g0,hg0⟩:∃ g,g = Wd.heap.size:=⟨_,rfl⟩
   rw [← hg0] at own g0b g0l ⊢
   generalize Wd.alloc (.cells #[] 48) = Wde at own KT hHeld g0l ⊢
   clear hg0
   refine anyZ_ready (rs:=[3,5]) (by kernel_rfl) (by simp) ?_
   refine AllZ.cons rfl (fun K hK => ?_) ?_
   ·
    skip
    refine step_src rfl (.tmp 3) (.tmp 5) 22 rfl W0.heap.size 48 i0 (.agg #[.int .i64 0,.int .i64 0]) 2 16 und_nums hi hz0 hz1 hz2 rfl (by decide) g0 rfl own a1 n c (nums gs) rfl hln (fun h0 => (hsrc.out h0).imp fun ad h => ⟨h.1,fun j u hu => (Below.cell KT (p:=ad.add j) (by rw [addB]; exact h.2.1)).trans (h.2.2 j u hu)⟩) (nums_one gs) h63 (by omega) KT.size ?_
    intro g2 cap2 W2 own2 hg2
    have KT:=kept_grown KT hg2 g0b
    have g2l:=(row_of_owns own2).2.2.elim fun f h => h.1.lt
    refine hK.out _ _ (sS.out _ KT) (fun hHeld => ?_)
    have own:=own2
    clear hK K hg2 own2
    clear g0l
    refine anyZ_ready (rs:=[5]) (by kernel_rfl) (by simp) ?_
    refine AllZ.cons rfl (fun K hK => ?_) AllZ.nil
    go_simp
    refine hK.out _ _ (sS.out _ (KT.alloc _)) (fun hHeld => ?_)
    clear hK K
    have Hm:=mark2 48 W2 (.int .i64 77) (.int .i64 0)
    have lm:W2.heap.size < (W2.alloc (.cells #[.int .i64 77,.int .i64 0] 48)).heap.size:=by simp
    have ne:¬ W2.heap.size = g2:=by omega
    have own:=own.alloc (.cells #[.int .i64 77,.int .i64 0] 48)
    have g2l:g2 < (W2.alloc (.cells #[.int .i64 77,.int .i64 0] 48)).heap.size:=by simp; omega
    have KT:=KT.alloc (.cells #[.int .i64 77,.int .i64 0] 48)
    obtain ⟨bm,hbm⟩:∃ g,g = W2.heap.size:=⟨_,rfl⟩
    rw [← hbm] at Hm lm ne ⊢
    generalize W2.alloc (.cells #[.int .i64 77,.int .i64 0] 48) = W2m at Hm lm KT hHeld own g2l ⊢
    clear hbm
    refine anyZ_ready (rs:=[6]) (by kernel_rfl) (by simp) ?_
    refine AllZ.cons rfl (fun K hK => ?_) AllZ.nil
    refine step_append_lies _ rfl (.tmp 6) (.tmp 8) 22 rfl W0.heap.size 48 i0 (.agg #[.int .i64 0,.int .i64 0]) 2 16 und_nums hi hz0 hz1 hz2 rfl (by decide) (.slice (some ⟨g2,0,none⟩) n cap2) n (nums gs) rfl own ⟨bm,0,none⟩ 1 1 [.int .i64 77,.int .i64 0] rfl rfl Hm (fun u hu => by simp at hu; rcases hu with rfl | rfl <;> rfl) (by omega) h63' (by omega) KT.size _ rfl ?_
    intro g4 cap4 W4 own4 hg4 _ _
    have KT:=kept_grown KT hg4 (row_of_owns own).1
    refine hK.out _ _ (sS.out _ KT) (fun hHeld => ?_)
    clear hK K hg4 own Hm
    obtain ⟨gb,gc,f,gr,gv⟩:=row_of_owns own4
    have gc':n≤cap4:=by omega
    refine anyZ_take (i:=10) (v:=?vx1a) rfl (by kernel_rfl) (by kernel_rfl) (by kernel_rfl) (by kernel_rfl) (fun _ _ _ h => h) (Or.inl ⟨by rfl,?yx1a⟩) hHeld ?rx1a
    case yx1a =>
     intro w' hSw
     obtain ⟨hSw0,hSw1⟩:=hSw
     go_simp
     with_reducible rfl
    case rx1a =>
    refine anyZ_take (i:=11) (v:=?vx1b) rfl (by kernel_rfl) (by kernel_rfl) (by kernel_rfl) (by kernel_rfl) (fun _ _ _ h => h) (Or.inl ⟨by rfl,?yx1b⟩) hHeld ?rx1b
    case yx1b =>
     intro w' hSw
     obtain ⟨hSw0,hSw1⟩:=hSw
     go_simp
     with_reducible rfl
    case rx1b =>
    have hP:=HP.out.1.kept KT
    have hP1:=hP.c2
    have hP2:=hP.fz 2
    refine anyZ_ready (rs:=[12]) (by kernel_rfl) (by simp) ?_
    refine AllZ.last rfl (fun K hK => ?_)
    go_simp
    refine hK.out _ _ ?_
    clear hK K
    refine anyZ_done (by kernel_rfl) ?_ _
    go_wp2_with fail
    go_meet
    case rel => exact ⟨g4,cap4,f,rfl,half_of2 HP.out.2 hP KT gb gc gr gv⟩
   ·
    refine AllZ.cons rfl (fun K hK => ?_) AllZ.nil
    go_simp
    refine hK.out _ _ (sS.out _ (KT.alloc _)) (fun hHeld => ?_)
    clear hK K
    have Hm:=mark2 48 Wde (.int .i64 77) (.int .i64 0)
    have lm:Wde.heap.size < (Wde.alloc (.cells #[.int .i64 77,.int .i64 0] 48)).heap.size:=by simp
    have ne:¬ Wde.heap.size = g0:=by omega
    have own:=own.alloc (.cells #[.int .i64 77,.int .i64 0] 48)
    have g0l:g0 < (Wde.alloc (.cells #[.int .i64 77,.int .i64 0] 48)).heap.size:=by simp; omega
    have KT:=KT.alloc (.cells #[.int .i64 77,.int .i64 0] 48)
    obtain ⟨bm,hbm⟩:∃ g,g = Wde.heap.size:=⟨_,rfl⟩
    rw [← hbm] at Hm lm ne ⊢
    generalize Wde.alloc (.cells #[.int .i64 77,.int .i64 0] 48) = Wdem at Hm lm KT hHeld own g0l ⊢
    clear hbm
    refine anyZ_ready (rs:=[3]) (by kernel_rfl) (by simp) ?_
    refine AllZ.cons rfl (fun K hK => ?_) AllZ.nil
    refine step_src rfl (.tmp 3) (.tmp 5) 22 rfl W0.heap.size 48 i0 (.agg #[.int .i64 0,.int .i64 0]) 2 16 und_nums hi hz0 hz1 hz2 rfl (by decide) g0 rfl own a1 n c (nums gs) rfl hln (fun h0 => (hsrc.out h0).imp fun ad h => ⟨h.1,fun j u hu => (Below.cell KT (p:=ad.add j) (by rw [addB]; exact h.2.1)).trans (h.2.2 j u hu)⟩) (nums_one gs) h63 (by omega) KT.size ?_
    intro g2 cap2 W2 own2 hg2
    have KT:=kept_grown KT hg2 g0b
    have g2l:=(row_of_owns own2).2.2.elim fun f h => h.1.lt
    have Hm:=marks_kept Hm (hg2.block bm lm (by simp; exact ne))
    refine hK.out _ _ (sS.out _ KT) (fun hHeld => ?_)
    have own:=own2
    clear hK K hg2 own2
    refine anyZ_ready (rs:=[6]) (by kernel_rfl) (by simp) ?_
    refine AllZ.cons rfl (fun K hK => ?_) AllZ.nil
    refine step_append_lies _ rfl (.tmp 6) (.tmp 8) 22 rfl W0.heap.size 48 i0 (.agg #[.int .i64 0,.int .i64 0]) 2 16 und_nums hi hz0 hz1 hz2 rfl (by decide) (.slice (some ⟨g2,0,none⟩) n cap2) n (nums gs) rfl own ⟨bm,0,none⟩ 1 1 [.int .i64 77,.int .i64 0] rfl rfl Hm (fun u hu => by simp at hu; rcases hu with rfl | rfl <;> rfl) (by omega) h63' (by omega) KT.size _ rfl ?_
    intro g4 cap4 W4 own4 hg4 _ _
    have KT:=kept_grown KT hg4 (row_of_owns own).1
    refine hK.out _ _ (sS.out _ KT) (fun hHeld => ?_)
    clear hK K hg4 own Hm
    obtain ⟨gb,gc,f,gr,gv⟩:=row_of_owns own4
    have gc':n≤cap4:=by omega
    refine anyZ_take (i:=10) (v:=?vx2a) rfl (by kernel_rfl) (by kernel_rfl) (by kernel_rfl) (by kernel_rfl) (fun _ _ _ h => h) (Or.inl ⟨by rfl,?yx2a⟩) hHeld ?rx2a
    case yx2a =>
     intro w' hSw
     obtain ⟨hSw0,hSw1⟩:=hSw
     go_simp
     with_reducible rfl
    case rx2a =>
    refine anyZ_take (i:=11) (v:=?vx2b) rfl (by kernel_rfl) (by kernel_rfl) (by kernel_rfl) (by kernel_rfl) (fun _ _ _ h => h) (Or.inl ⟨by rfl,?yx2b⟩) hHeld ?rx2b
    case yx2b =>
     intro w' hSw
     obtain ⟨hSw0,hSw1⟩:=hSw
     go_simp
     with_reducible rfl
    case rx2b =>
    have hP:=HP.out.1.kept KT
    have hP1:=hP.c2
    have hP2:=hP.fz 2
    refine anyZ_ready (rs:=[12]) (by kernel_rfl) (by simp) ?_
    refine AllZ.last rfl (fun K hK => ?_)
    go_simp
    refine hK.out _ _ ?_
    clear hK K
    refine anyZ_done (by kernel_rfl) ?_ _
    go_wp2_with fail
    go_meet
    case rel => exact ⟨g4,cap4,f,rfl,half_of2 HP.out.2 hP KT gb gc gr gv⟩
  ·
   refine AllZ.cons rfl (fun K hK => ?_) AllZ.nil
   go_simp
   refine hK.out _ _ (sS.out _ (KT.alloc _)) (fun hHeld => ?_)
   clear hK K
   have Hm:=mark2 48 Wd (.int .i64 77) (.int .i64 0)
   have lm:Wd.heap.size < (Wd.alloc (.cells #[.int .i64 77,.int .i64 0] 48)).heap.size:=by simp
   have KT:=KT.alloc (.cells #[.int .i64 77,.int .i64 0] 48)
   obtain ⟨bm,hbm⟩:∃ g,g = Wd.heap.size:=⟨_,rfl⟩
   rw [← hbm] at Hm lm ⊢
   generalize Wd.alloc (.cells #[.int .i64 77,.int .i64 0] 48) = Wdm at Hm lm KT hHeld ⊢
   clear hbm
   refine anyZ_ready (rs:=[0]) (by kernel_rfl) (by simp) ?_
   refine AllZ.cons rfl (fun K hK => ?_) AllZ.nil
   go_simp
   refine hK.out _ _ (sS.out _ (KT.alloc _)) (fun hHeld => ?_)
   clear hK K
   have own:=own_nil 48 2 Wdm W0.heap.size KT.size
   have Hm:=marks_kept Hm (heap_alloc_lt' Wdm (.cells #[] 48) bm lm)
   have ne:¬ bm = Wdm.heap.size:=by omega
   have g0b:W0.heap.size≤Wdm.heap.size:=KT.size
   have g0l:Wdm.heap.size < (Wdm.alloc (.cells #[] 48)).heap.size:=by simp
   have KT:=KT.alloc (.cells #[] 48)
   have lm:bm < (Wdm.alloc (.cells #[] 48)).heap.size:=by simp; omega
   obtain ⟨g0,hg0⟩:∃ g,g = Wdm.heap.size:=⟨_,rfl⟩
   rw [← hg0] at own g0b g0l ne ⊢
   generalize Wdm.alloc (.cells #[] 48) = Wdme at own KT hHeld g0l Hm lm ⊢
   clear hg0
   refine anyZ_ready (rs:=[3]) (by kernel_rfl) (by simp) ?_
   refine AllZ.cons rfl (fun K hK => ?_) AllZ.nil
   refine step_src rfl (.tmp 3) (.tmp 5) 22 rfl W0.heap.size 48 i0 (.agg #[.int .i64 0,.int .i64 0]) 2 16 und_nums hi hz0 hz1 hz2 rfl (by decide) g0 rfl own a1 n c (nums gs) rfl hln (fun h0 => (hsrc.out h0).imp fun ad h => ⟨h.1,fun j u hu => (Below.cell KT (p:=ad.add j) (by rw [addB]; exact h.2.1)).trans (h.2.2 j u hu)⟩) (nums_one gs) h63 (by omega) KT.size ?_
   intro g2 cap2 W2 own2 hg2
   have KT:=kept_grown KT hg2 g0b
   have g2l:=(row_of_owns own2).2.2.elim fun f h => h.1.lt
   have Hm:=marks_kept Hm (hg2.block bm lm (by simp; exact ne))
   refine hK.out _ _ (sS.out _ KT) (fun hHeld => ?_)
   have own:=own2
   clear hK K hg2 own2
   refine anyZ_ready (rs:=[6]) (by kernel_rfl) (by simp) ?_
   refine AllZ.cons rfl (fun K hK => ?_) AllZ.nil
   refine step_append_lies _ rfl (.tmp 6) (.tmp 8) 22 rfl W0.heap.size 48 i0 (.agg #[.int .i64 0,.int .i64 0]) 2 16 und_nums hi hz0 hz1 hz2 rfl (by decide) (.slice (some ⟨g2,0,none⟩) n cap2) n (nums gs) rfl own ⟨bm,0,none⟩ 1 1 [.int .i64 77,.int .i64 0] rfl rfl Hm (fun u hu => by simp at hu; rcases hu with rfl | rfl <;> rfl) (by omega) h63' (by omega) KT.size _ rfl ?_
   intro g4 cap4 W4 own4 hg4 _ _
   have KT:=kept_grown KT hg4 (row_of_owns own).1
   refine hK.out _ _ (sS.out _ KT) (fun hHeld => ?_)
   clear hK K hg4 own Hm
   obtain ⟨gb,gc,f,gr,gv⟩:=row_of_owns own4
   have gc':n≤cap4:=by omega
   refine anyZ_take (i:=10) (v:=?vx3a) rfl (by kernel_rfl) (by kernel_rfl) (by kernel_rfl) (by kernel_rfl) (fun _ _ _ h => h) (Or.inl ⟨by rfl,?yx3a⟩) hHeld ?rx3a
   case yx3a =>
    intro w' hSw
    obtain ⟨hSw0,hSw1⟩:=hSw
    go_simp
    with_reducible rfl
   case rx3a =>
   refine anyZ_take (i:=11) (v:=?vx3b) rfl (by kernel_rfl) (by kernel_rfl) (by kernel_rfl) (by kernel_rfl) (fun _ _ _ h => h) (Or.inl ⟨by rfl,?yx3b⟩) hHeld ?rx3b
   case yx3b =>
    intro w' hSw
    obtain ⟨hSw0,hSw1⟩:=hSw
    go_simp
    with_reducible rfl
   case rx3b =>
   have hP:=HP.out.1.kept KT
   have hP1:=hP.c2
   have hP2:=hP.fz 2
   refine anyZ_ready (rs:=[12]) (by kernel_rfl) (by simp) ?_
   refine AllZ.last rfl (fun K hK => ?_)
   go_simp
   refine hK.out _ _ ?_
   clear hK K
   refine anyZ_done (by kernel_rfl) ?_ _
   go_wp2_with fail
   go_meet
   case rel => exact ⟨g4,cap4,f,rfl,half_of2 HP.out.2 hP KT gb gc gr gv⟩
 case rest =>
  obtain ⟨g1,cap1,f1,rfl,H1⟩:=hcut
  have HP2:Hid (Row4 24 wc p (.string s) (.int .u8 k) (.slice (some ⟨g1,0,none⟩) n cap1) (.slice a2 m c')∧Kept w wc∧w.heap.size≤p∧p < wc.heap.size∧¬ q = p∧Row4 24 wc q (.string ⟨#[]⟩) (.int .u8 0) (.slice none 0 0) (.slice none 0 0)):=⟨H1.out.rp,H1.out.kp,HP.out.2.2.1,H1.out.rp.lt,HP.out.2.2.2.2.1,H1.out.rq⟩
  have HG:Hid (¬ g1 = p∧w.heap.size≤g1∧¬ g1 = q∧n + 1≤cap1∧wc.rowIs g1 48 (cap1 * 2) f1∧∀ i u,(nums gs ++ [.int .i64 77,.int .i64 0])[i]? = some u→f1 i = u):=⟨fun e => by have h1:=HP.out.2.2.2.1; have h2:=H1.out.gb; omega,Nat.le_trans HP.out.2.1.size H1.out.gb,fun e => by have h1:=HP.out.2.2.2.2.2.lt; have h2:=H1.out.gb; omega,H1.out.gc,H1.out.r,H1.out.v⟩
  clear HP hsrc H1 hln h63 h63'
  have hln:(nums vs).length = m * 2:=by rw [nums_len,← (NSl.src HS.out.2).1]
  have h63:m≤maxLen:=by unfold maxLen; omega
  have h63':m + 1≤maxLen:=by unfold maxLen; omega
  have hsrc2:Hid (0 < m→∃ ad:Addr,a2 = some ad∧ad.block < wc.heap.size∧∀ j u,(nums vs)[j]? = some u→wc.cell? (ad.add j) = some u):=(NSl.src (HS.out.2.kept HP2.out.2.1)).2
  go_upto_region 2 with fail
  go_cut [25] (fun s25 wd => ∃ g cap f,s25 = .slice (some ⟨g,0,none⟩) m cap∧Hid (Half w wc wd p q s k (.slice (some ⟨g1,0,none⟩) n cap1) (.slice (some ⟨g,0,none⟩) m cap) g 48 2 m cap (nums vs ++ [.int .i64 78,.int .i64 0]) f))
  case first =>
   obtain ⟨i0,hi,hz0,hz1,hz2⟩:=info_parts info_num
   have sS:=hid' (fun (V:World) (K:Kept wc V) => And.intro ((HP2.out.1.kept K).c1) ((HP2.out.1.kept K).c3))
   have KT:Kept wc wc.drew:=(Kept.refl _).drew
   refine region_z 12 (S:=fun w' => w'.cell? ⟨p,1,none⟩ = some (.int .u8 k)∧w'.cell? ⟨p,3,none⟩ = some (.slice a2 m c')) (by kernel_rfl) (sS.out _ KT) (fun hHeld => ?_)
   generalize wc.drew = Wd at KT hHeld ⊢
   refine anyZ_take (i:=1) (v:=?vut1) rfl (by kernel_rfl) (by kernel_rfl) (by kernel_rfl) (by kernel_rfl) (fun _ _ _ h => h) (Or.inl ⟨by rfl,?yut1⟩) hHeld ?rut1
   case yut1 =>
    intro w' hSw
    obtain ⟨hSw0,hSw1⟩:=hSw
    go_simp
    with_reducible rfl
   case rut1 =>
   refine anyZ_take (i:=2) (v:=?vut2) rfl (by kernel_rfl) (by kernel_rfl) (by kernel_rfl) (by kernel_rfl) (fun _ _ _ h => h) (Or.inl ⟨by rfl,?yut2⟩) hHeld ?rut2
   case yut2 =>
    intro w' hSw
    obtain ⟨hSw0,hSw1⟩:=hSw
    go_simp
    with_reducible rfl
   case rut2 =>
   refine anyZ_take (i:=4) (v:=?vut4) rfl (by kernel_rfl) (by kernel_rfl) (by kernel_rfl) (by kernel_rfl) (fun _ _ _ h => h) (Or.inl ⟨by rfl,?yut4⟩) hHeld ?rut4
   case yut4 =>
    intro w' hSw
    obtain ⟨hSw0,hSw1⟩:=hSw
    go_simp
    with_reducible rfl
   case rut4 =>
   refine anyZ_take (i:=7) (v:=?vut7) rfl (by kernel_rfl) (by kernel_rfl) (by kernel_rfl) (by kernel_rfl) (fun _ _ _ h => h) (Or.inl ⟨by rfl,?yut7⟩) hHeld ?rut7
   case yut7 =>
    intro w' hSw
    obtain ⟨hSw0,hSw1⟩:=hSw
    go_simp
    with_reducible rfl
   case rut7 =>
   refine anyZ_take (i:=8) (v:=?vut8) rfl (by kernel_rfl) (by kernel_rfl) (by kernel_rfl) (by kernel_rfl) (fun _ _ _ h => h) (Or.inl ⟨by rfl,?yut8⟩) hHeld ?rut8
   case yut8 =>
    intro w' hSw
    obtain ⟨hSw0,hSw1⟩:=hSw
    go_simp
    with_reducible rfl
   case rut8 =>
   refine anyZ_take (i:=9) (v:=?vut9) rfl (by kernel_rfl) (by kernel_rfl) (by kernel_rfl) (by kernel_rfl) (fun _ _ _ h => h) (Or.inl ⟨by rfl,?yut9⟩) hHeld ?rut9
   case yut9 =>
    intro w' hSw
    obtain ⟨hSw0,hSw1⟩:=hSw
    go_simp
    with_reducible rfl
   case rut9 =>
   refine anyZ_ready (rs:=[0,5]) (by kernel_rfl) (by simp) ?_
   refine AllZ.cons rfl (fun K hK => ?_) ?_
   ·
    skip
    go_simp
    refine hK.out _ _ (sS.out _ (KT.alloc _)) (fun hHeld => ?_)
    clear hK K
    have own:=own_nil 48 2 Wd wc.heap.size KT.size
    have g0b:wc.heap.size≤Wd.heap.size:=KT.size
    have g0l:Wd.heap.size < (Wd.alloc (.cells #[] 48)).heap.size:=by simp
    have KT:=KT.alloc (.cells #[] 48)
    obtain ⟨g0,hg0⟩:∃ g,g = Wd.heap.size:=⟨_,rfl⟩
    rw [← hg0] at own g0b g0l ⊢
    generalize Wd.alloc (.cells #[] 48) = Wde at own KT hHeld g0l ⊢
    clear hg0
    refine anyZ_ready (rs:=[3,5]) (by kernel_rfl) (by simp) ?_
    refine AllZ.cons rfl (fun K hK => ?_) ?_
    ·
     skip
     refine step_src rfl (.tmp 15) (.tmp 17) 22 rfl wc.heap.size 48 i0 (.agg #[.int .i64 0,.int .i64 0]) 2 16 und_nums hi hz0 hz1 hz2 rfl (by decide) g0 rfl own a2 m c' (nums vs) rfl hln (fun h0 => (hsrc2.out h0).imp fun ad h => ⟨h.1,fun j u hu => (Below.cell KT (p:=ad.add j) (by rw [addB]; exact h.2.1)).trans (h.2.2 j u hu)⟩) (nums_one vs) h63 (by omega) KT.size ?_
     intro g2 cap2 W2 own2 hg2
     have KT:=kept_grown KT hg2 g0b
     have g2l:=(row_of_owns own2).2.2.elim fun f h => h.1.lt
     refine hK.out _ _ (sS.out _ KT) (fun hHeld => ?_)
     have own:=own2
     clear hK K hg2 own2
     clear g0l
     refine anyZ_ready (rs:=[5]) (by kernel_rfl) (by simp) ?_
     refine AllZ.cons rfl (fun K hK => ?_) AllZ.nil
     go_simp
     refine hK.out _ _ (sS.out _ (KT.alloc _)) (fun hHeld => ?_)
     clear hK K
     have Hm:=mark2 48 W2 (.int .i64 78) (.int .i64 0)
     have lm:W2.heap.size < (W2.alloc (.cells #[.int .i64 78,.int .i64 0] 48)).heap.size:=by simp
     have ne:¬ W2.heap.size = g2:=by omega
     have own:=own.alloc (.cells #[.int .i64 78,.int .i64 0] 48)
     have g2l:g2 < (W2.alloc (.cells #[.int .i64 78,.int .i64 0] 48)).heap.size:=by simp; omega
     have KT:=KT.alloc (.cells #[.int .i64 78,.int .i64 0] 48)
     obtain ⟨bm,hbm⟩:∃ g,g = W2.heap.size:=⟨_,rfl⟩
     rw [← hbm] at Hm lm ne ⊢
     generalize W2.alloc (.cells #[.int .i64 78,.int .i64 0] 48) = W2m at Hm lm KT hHeld own g2l ⊢
     clear hbm
     refine anyZ_ready (rs:=[6]) (by kernel_rfl) (by simp) ?_
     refine AllZ.cons rfl (fun K hK => ?_) AllZ.nil
     refine step_append_lies _ rfl (.tmp 18) (.tmp 20) 22 rfl wc.heap.size 48 i0 (.agg #[.int .i64 0,.int .i64 0]) 2 16 und_nums hi hz0 hz1 hz2 rfl (by decide) (.slice (some ⟨g2,0,none⟩) m cap2) m (nums vs) rfl own ⟨bm,0,none⟩ 1 1 [.int .i64 78,.int .i64 0] rfl rfl Hm (fun u hu => by simp at hu; rcases hu with rfl | rfl <;> rfl) (by omega) h63' (by omega) KT.size _ rfl ?_
     intro g4 cap4 W4 own4 hg4 _ _
     have KT:=kept_grown KT hg4 (row_of_owns own).1
     refine hK.out _ _ (sS.out _ KT) (fun hHeld => ?_)
     clear hK K hg4 own Hm
     obtain ⟨gb,gc,f,gr,gv⟩:=row_of_owns own4
     have gc':m≤cap4:=by omega
     refine anyZ_take (i:=10) (v:=?vu1a) rfl (by kernel_rfl) (by kernel_rfl) (by kernel_rfl) (by kernel_rfl) (fun _ _ _ h => h) (Or.inl ⟨by rfl,?yu1a⟩) hHeld ?ru1a
     case yu1a =>
      intro w' hSw
      obtain ⟨hSw0,hSw1⟩:=hSw
      go_simp
      with_reducible rfl
     case ru1a =>
     refine anyZ_take (i:=11) (v:=?vu1b) rfl (by kernel_rfl) (by kernel_rfl) (by kernel_rfl) (by kernel_rfl) (fun _ _ _ h => h) (Or.inl ⟨by rfl,?yu1b⟩) hHeld ?ru1b
     case yu1b =>
      intro w' hSw
      obtain ⟨hSw0,hSw1⟩:=hSw
      go_simp
      with_reducible rfl
     case ru1b =>
     have hP:=HP2.out.1.kept KT
     have hP1:=hP.c3
     have hP2:=hP.fz 3
     refine anyZ_ready (rs:=[12]) (by kernel_rfl) (by simp) ?_
     refine AllZ.last rfl (fun K hK => ?_)
     go_simp
     refine hK.out _ _ ?_
     clear hK K
     refine anyZ_done (by kernel_rfl) ?_ _
     go_wp2_with fail
     go_meet
     case rel => exact ⟨g4,cap4,f,rfl,half_of3 HP2.out.2 hP KT gb gc gr gv⟩
    ·
     refine AllZ.cons rfl (fun K hK => ?_) AllZ.nil
     go_simp
     refine hK.out _ _ (sS.out _ (KT.alloc _)) (fun hHeld => ?_)
     clear hK K
     have Hm:=mark2 48 Wde (.int .i64 78) (.int .i64 0)
     have lm:Wde.heap.size < (Wde.alloc (.cells #[.int .i64 78,.int .i64 0] 48)).heap.size:=by simp
     have ne:¬ Wde.heap.size = g0:=by omega
     have own:=own.alloc (.cells #[.int .i64 78,.int .i64 0] 48)
     have g0l:g0 < (Wde.alloc (.cells #[.int .i64 78,.int .i64 0] 48)).heap.size:=by simp; omega
     have KT:=KT.alloc (.cells #[.int .i64 78,.int .i64 0] 48)
     obtain ⟨bm,hbm⟩:∃ g,g = Wde.heap.size:=⟨_,rfl⟩
     rw [← hbm] at Hm lm ne ⊢
     generalize Wde.alloc (.cells #[.int .i64 78,.int .i64 0] 48) = Wdem at Hm lm KT hHeld own g0l ⊢
     clear hbm
     refine anyZ_ready (rs:=[3]) (by kernel_rfl) (by simp) ?_
     refine AllZ.cons rfl (fun K hK => ?_) AllZ.nil
     refine step_src rfl (.tmp 15) (.tmp 17) 22 rfl wc.heap.size 48 i0 (.agg #[.int .i64 0,.int .i64 0]) 2 16 und_nums hi hz0 hz1 hz2 rfl (by decide) g0 rfl own a2 m c' (nums vs) rfl hln (fun h0 => (hsrc2.out h0).imp fun ad h => ⟨h.1,fun j u hu => (Below.cell KT (p:=ad.add j) (by rw [addB]; exact h.2.1)).trans (h.2.2 j u hu)⟩) (nums_one vs) h63 (by omega) KT.size ?_
     intro g2 cap2 W2 own2 hg2
     have KT:=kept_grown KT hg2 g0b
     have g2l:=(row_of_owns own2).2.2.elim fun f h => h.1.lt
     have Hm:=marks_kept Hm (hg2.block bm lm (by simp; exact ne))
     refine hK.out _ _ (sS.out _ KT) (fun hHeld => ?_)
     have own:=own2
     clear hK K hg2 own2
     refine anyZ_ready (rs:=[6]) (by kernel_rfl) (by simp) ?_
     refine AllZ.cons rfl (fun K hK => ?_) AllZ.nil
     refine step_append_lies _ rfl (.tmp 18) (.tmp 20) 22 rfl wc.heap.size 48 i0 (.agg #[.int .i64 0,.int .i64 0]) 2 16 und_nums hi hz0 hz1 hz2 rfl (by decide) (.slice (some ⟨g2,0,none⟩) m cap2) m (nums vs) rfl own ⟨bm,0,none⟩ 1 1 [.int .i64 78,.int .i64 0] rfl rfl Hm (fun u hu => by simp at hu; rcases hu with rfl | rfl <;> rfl) (by omega) h63' (by omega) KT.size _ rfl ?_
     intro g4 cap4 W4 own4 hg4 _ _
     have KT:=kept_grown KT hg4 (row_of_owns own).1
     refine hK.out _ _ (sS.out _ KT) (fun hHeld => ?_)
     clear hK K hg4 own Hm
     obtain ⟨gb,gc,f,gr,gv⟩:=row_of_owns own4
     have gc':m≤cap4:=by omega
     refine anyZ_take (i:=10) (v:=?vu2a) rfl (by kernel_rfl) (by kernel_rfl) (by kernel_rfl) (by kernel_rfl) (fun _ _ _ h => h) (Or.inl ⟨by rfl,?yu2a⟩) hHeld ?ru2a
     case yu2a =>
      intro w' hSw
      obtain ⟨hSw0,hSw1⟩:=hSw
      go_simp
      with_reducible rfl
     case ru2a =>
     refine anyZ_take (i:=11) (v:=?vu2b) rfl (by kernel_rfl) (by kernel_rfl) (by kernel_rfl) (by kernel_rfl) (fun _ _ _ h => h) (Or.inl ⟨by rfl,?yu2b⟩) hHeld ?ru2b
     case yu2b =>
      intro w' hSw
      obtain ⟨hSw0,hSw1⟩:=hSw
      go_simp
      with_reducible rfl
     case ru2b =>
     have hP:=HP2.out.1.kept KT
     have hP1:=hP.c3
     have hP2:=hP.fz 3
     refine anyZ_ready (rs:=[12]) (by kernel_rfl) (by simp) ?_
     refine AllZ.last rfl (fun K hK => ?_)
     go_simp
     refine hK.out _ _ ?_
     clear hK K
     refine anyZ_done (by kernel_rfl) ?_ _
     go_wp2_with fail
     go_meet
     case rel => exact ⟨g4,cap4,f,rfl,half_of3 HP2.out.2 hP KT gb gc gr gv⟩
   ·
    refine AllZ.cons rfl (fun K hK => ?_) AllZ.nil
    go_simp
    refine hK.out _ _ (sS.out _ (KT.alloc _)) (fun hHeld => ?_)
    clear hK K
    have Hm:=mark2 48 Wd (.int .i64 78) (.int .i64 0)
    have lm:Wd.heap.size < (Wd.alloc (.cells #[.int .i64 78,.int .i64 0] 48)).heap.size:=by simp
    have KT:=KT.alloc (.cells #[.int .i64 78,.int .i64 0] 48)
    obtain ⟨bm,hbm⟩:∃ g,g = Wd.heap.size:=⟨_,rfl⟩
    rw [← hbm] at Hm lm ⊢
    generalize Wd.alloc (.cells #[.int .i64 78,.int .i64 0] 48) = Wdm at Hm lm KT hHeld ⊢
    clear hbm
    refine anyZ_ready (rs:=[0]) (by kernel_rfl) (by simp) ?_
    refine AllZ.cons rfl (fun K hK => ?_) AllZ.nil
    go_simp
    refine hK.out _ _ (sS.out _ (KT.alloc _)) (fun hHeld => ?_)
    clear hK K
    have own:=own_nil 48 2 Wdm wc.heap.size KT.size
    have Hm:=marks_kept Hm (heap_alloc_lt' Wdm (.cells #[] 48) bm lm)
    have ne:¬ bm = Wdm.heap.size:=by omega
    have g0b:wc.heap.size≤Wdm.heap.size:=KT.size
    have g0l:Wdm.heap.size < (Wdm.alloc (.cells #[] 48)).heap.size:=by simp
    have KT:=KT.alloc (.cells #[] 48)
    have lm:bm < (Wdm.alloc (.cells #[] 48)).heap.size:=by simp; omega
    obtain ⟨g0,hg0⟩:∃ g,g = Wdm.heap.size:=⟨_,rfl⟩
    rw [← hg0] at own g0b g0l ne ⊢
    generalize Wdm.alloc (.cells #[] 48) = Wdme at own KT hHeld g0l Hm lm ⊢
    clear hg0
    refine anyZ_ready (rs:=[3]) (by kernel_rfl) (by simp) ?_
    refine AllZ.cons rfl (fun K hK => ?_) AllZ.nil
    refine step_src rfl (.tmp 15) (.tmp 17) 22 rfl wc.heap.size 48 i0 (.agg #[.int .i64 0,.int .i64 0]) 2 16 und_nums hi hz0 hz1 hz2 rfl (by decide) g0 rfl own a2 m c' (nums vs) rfl hln (fun h0 => (hsrc2.out h0).imp fun ad h => ⟨h.1,fun j u hu => (Below.cell KT (p:=ad.add j) (by rw [addB]; exact h.2.1)).trans (h.2.2 j u hu)⟩) (nums_one vs) h63 (by omega) KT.size ?_
    intro g2 cap2 W2 own2 hg2
    have KT:=kept_grown KT hg2 g0b
    have g2l:=(row_of_owns own2).2.2.elim fun f h => h.1.lt
    have Hm:=marks_kept Hm (hg2.block bm lm (by simp; exact ne))
    refine hK.out _ _ (sS.out _ KT) (fun hHeld => ?_)
    have own:=own2
    clear hK K hg2 own2
    refine anyZ_ready (rs:=[6]) (by kernel_rfl) (by simp) ?_
    refine AllZ.cons rfl (fun K hK => ?_) AllZ.nil
    refine step_append_lies _ rfl (.tmp 18) (.tmp 20) 22 rfl wc.heap.size 48 i0 (.agg #[.int .i64 0,.int .i64 0]) 2 16 und_nums hi hz0 hz1 hz2 rfl (by decide) (.slice (some ⟨g2,0,none⟩) m cap2) m (nums vs) rfl own ⟨bm,0,none⟩ 1 1 [.int .i64 78,.int .i64 0] rfl rfl Hm (fun u hu => by simp at hu; rcases hu with rfl | rfl <;> rfl) (by omega) h63' (by omega) KT.size _ rfl ?_
    intro g4 cap4 W4 own4 hg4 _ _
    have KT:=kept_grown KT hg4 (row_of_owns own).1
    refine hK.out _ _ (sS.out _ KT) (fun hHeld => ?_)
    clear hK K hg4 own Hm
    obtain ⟨gb,gc,f,gr,gv⟩:=row_of_owns own4
    have gc':m≤cap4:=by omega
    refine anyZ_take (i:=10) (v:=?vu3a) rfl (by kernel_rfl) (by kernel_rfl) (by kernel_rfl) (by kernel_rfl) (fun _ _ _ h => h) (Or.inl ⟨by rfl,?yu3a⟩) hHeld ?ru3a
    case yu3a =>
     intro w' hSw
     obtain ⟨hSw0,hSw1⟩:=hSw
     go_simp
     with_reducible rfl
    case ru3a =>
    refine anyZ_take (i:=11) (v:=?vu3b) rfl (by kernel_rfl) (by kernel_rfl) (by kernel_rfl) (by kernel_rfl) (fun _ _ _ h => h) (Or.inl ⟨by rfl,?yu3b⟩) hHeld ?ru3b
    case yu3b =>
     intro w' hSw
     obtain ⟨hSw0,hSw1⟩:=hSw
     go_simp
     with_reducible rfl
    case ru3b =>
    have hP:=HP2.out.1.kept KT
    have hP1:=hP.c3
    have hP2:=hP.fz 3
    refine anyZ_ready (rs:=[12]) (by kernel_rfl) (by simp) ?_
    refine AllZ.last rfl (fun K hK => ?_)
    go_simp
    refine hK.out _ _ ?_
    clear hK K
    refine anyZ_done (by kernel_rfl) ?_ _
    go_wp2_with fail
    go_meet
    case rel => exact ⟨g4,cap4,f,rfl,half_of3 HP2.out.2 hP KT gb gc gr gv⟩
  case rest =>
   obtain ⟨g2,cap2,f2,rfl,H2⟩:=hcut
   have c0:=H2.out.rp.c0
   have c1:=H2.out.rp.c1
   have c2:=H2.out.rp.c2
   have c3:=H2.out.rp.c3
   have d0:=H2.out.rq.c0
   have d1:=H2.out.rq.c1
   have d2:=H2.out.rq.c2
   have d3:=H2.out.rq.c3
   have e0:=H2.out.rq.fz 0
   have e1:=H2.out.rq.fz 1
   have e2:=H2.out.rq.fz 2
   have e3:=H2.out.rq.fz 3
   have LE:=hid' (lent_end HQ.out (NSl.src HS.out.1).1 (NSl.src HS.out.2).1 HP2.out HG.out.2 HG.out.1 H2.out)
   go_wp2_with fail
   refine bodyPost_ret (v:=.agg #[.string s,.int .u8 k,.slice (some ⟨g1,0,none⟩) n cap1,.slice (some ⟨g2,0,none⟩) m cap2]) (by simp [results,Tryz.results8,go_sem,d0,d1,d2,d3]) rfl ⟨(LE.out _ _ _ _).1,g1,cap1,g2,cap2,f1,f2,rfl,(LE.out _ _ _ _).2⟩
end V
end Go.Proofs.YthfbfbfambbkaaaGreatDoor

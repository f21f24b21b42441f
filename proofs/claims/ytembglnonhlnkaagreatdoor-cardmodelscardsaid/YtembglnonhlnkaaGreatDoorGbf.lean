/- NumReads' walk. shuntref07.ReadModel. CardModels' walk. -/
import Derived.Test.YtembglnonhlnkaaGreatDoorNrefn
import Derived.Test.YtembglnonhlnkaaGreatDoorNrefp
import Derived.Test.YtembglnonhlnkaaGreatDoorGbb
import Derived.Test.YtembglnonhlnkaaGreatDoorGbc
import Derived.Test.YtembglnonhlnkaaGreatDoorGba
import Derived.Test.YtembglnonhlnkaaGreatDoorGbe
import Derived.Test.YtembglnonhlnkaaGreatDoorGbd
namespace Go.Proofs.YtembglnonhlnkaaGreatDoor
open Go.RowKit
namespace Q
theorem rparse_any (s:ByteArray) (w:World) (hs:s.size≤maxLen) :
  Calls Tryz.prog 36 #[.string s] w fun e w' => Kept w w'∧e = numE (parseOf s.data.toList):=by
 rcases Nat.lt_or_ge 32 s.size with h | h
 ·
  exact rparse_long s w hs h
 ·
  rcases Nat.eq_zero_or_pos s.size with h0 | h0
  ·
   exact rparse_nil s w h0
  ·
   by_cases hn:hd 45 s.data.toList = true
   ·
    exact rparse_neg s w h hn
   ·
    exact rparse_pos s w h h0 (by simpa using hn)
end Q
end Go.Proofs.YtembglnonhlnkaaGreatDoor

namespace Go.Proofs.YtembglnonhlnkaaGreatDoor
open Go.RowKit
namespace V
open Q (hid' parseOf Lett ErrV numE rparse_any)
open X (bs OwnS RS strs bs_list bs_size)
def rgvF (k:Nat) (g v:List (Int × Int)):List (List UInt8)→Except Int (List (Int × Int) × List (Int × Int))
 | [] => .ok (g,v)
 | x :: t => if (parseOf x).2.2 = 0 then (if k % 2 = 0 then rgvF (k + 1) (g ++ [((parseOf x).1,(parseOf x).2.1)]) v t else rgvF (k + 1) g (v ++ [((parseOf x).1,(parseOf x).2.1)]) t) else .error (parseOf x).2.2
def rgv (L:List (List UInt8)):Except Int (List (Int × Int) × List (Int × Int)):=rgvF 0 [] [] L
theorem gv_snoc:∀ (l:List (Int × Int)) (k:Nat) (g v:List (Int × Int)) (x:Int × Int),gvAll k g v (l ++ [x]) = if (k + l.length) % 2 = 0 then ((gvAll k g v l).1 ++ [x],(gvAll k g v l).2) else ((gvAll k g v l).1,(gvAll k g v l).2 ++ [x])
 | [],k,g,v,x => by
  show (if k % 2 = 0 then gvAll (k + 1) (g ++ [x]) v [] else gvAll (k + 1) g (v ++ [x]) []) = _
  rfl
 | y :: t,k,g,v,x => by
  have e:k + (y :: t).length = k + 1 + t.length:=by rw [List.length_cons]; omega
  rw [e]
  show (if k % 2 = 0 then gvAll (k + 1) (g ++ [y]) v (t ++ [x]) else gvAll (k + 1) g (v ++ [y]) (t ++ [x])) = if (k + 1 + t.length) % 2 = 0 then ((if k % 2 = 0 then gvAll (k + 1) (g ++ [y]) v t else gvAll (k + 1) g (v ++ [y]) t).1 ++ [x],(if k % 2 = 0 then gvAll (k + 1) (g ++ [y]) v t else gvAll (k + 1) g (v ++ [y]) t).2) else ((if k % 2 = 0 then gvAll (k + 1) (g ++ [y]) v t else gvAll (k + 1) g (v ++ [y]) t).1,(if k % 2 = 0 then gvAll (k + 1) (g ++ [y]) v t else gvAll (k + 1) g (v ++ [y]) t).2 ++ [x])
  by_cases h:k % 2 = 0
  ·
   simp only [if_pos h]; exact gv_snoc t (k + 1) (g ++ [y]) v x
  ·
   simp only [if_neg h]; exact gv_snoc t (k + 1) g (v ++ [y]) x
theorem rgv_nuL:∀ (t:List (List UInt8)) (l:List (Int × Int)),rgvF l.length (gvAll 0 [] [] l).1 (gvAll 0 [] [] l).2 t = match nuL l t with
  | .error e => .error e
  | .ok l => .ok (gvAll 0 [] [] l)
 | [],l => rfl
 | x :: t,l => by
  have hs:=gv_snoc l 0 [] [] ((parseOf x).1,(parseOf x).2.1)
  rw [Nat.zero_add] at hs
  have ih:=rgv_nuL t (l ++ [((parseOf x).1,(parseOf x).2.1)])
  rw [List.length_append,List.length_singleton,hs] at ih
  show (if (parseOf x).2.2 = 0 then (if l.length % 2 = 0 then rgvF (l.length + 1) ((gvAll 0 [] [] l).1 ++ [((parseOf x).1,(parseOf x).2.1)]) (gvAll 0 [] [] l).2 t else rgvF (l.length + 1) (gvAll 0 [] [] l).1 ((gvAll 0 [] [] l).2 ++ [((parseOf x).1,(parseOf x).2.1)]) t) else .error (parseOf x).2.2) = match (if (parseOf x).2.2 = 0 then nuL (l ++ [((parseOf x).1,(parseOf x).2.1)]) t else .error (parseOf x).2.2) with
   | .error e => .error e
   | .ok l => .ok (gvAll 0 [] [] l)
  by_cases h:(parseOf x).2.2 = 0
  ·
   rw [if_pos h,if_pos h,← ih]
   by_cases h2:l.length % 2 = 0
   ·
    rw [if_pos h2,if_pos h2]
   ·
    rw [if_neg h2,if_neg h2]
  ·
   rw [if_neg h,if_neg h]
theorem rgv_eq (t:List (List UInt8)):rgv t = match nuL [] t with
  | .error e => .error e
  | .ok l => .ok (gvAll 0 [] [] l):=rgv_nuL t []
def rbodyM (s:List UInt8) (z:Int):Except Int (List (Int × Int) × List (Int × Int))→Except Int Md
 | .error e => .error e
 | .ok p => mendC ⟨s,z,p.1,p.2⟩
theorem rbodyM_eq (ws:List (List UInt8)):rbodyM (ws.getD 1 []) (((ws.getD 2 []).getD 0 0).toNat:Int) (rgv (ws.drop 3)) = match nuL [] (ws.drop 3) with
  | .error e => .error e
  | .ok l => mendC (mdOf ws l):=by
 rw [rgv_eq]
 cases nuL [] (ws.drop 3) <;> rfl
theorem rgv_step {L:List (List UInt8)} {k:Nat} {g v:List (Int × Int)} (h:rgv L = rgvF k g v (L.drop k)) (hk:k < L.length) :
  rgv L = if (parseOf (L.getD k [])).2.2 = 0 then (if k % 2 = 0 then rgvF (k + 1) (g ++ [((parseOf (L.getD k [])).1,(parseOf (L.getD k [])).2.1)]) v (L.drop (k + 1)) else rgvF (k + 1) g (v ++ [((parseOf (L.getD k [])).1,(parseOf (L.getD k [])).2.1)]) (L.drop (k + 1))) else .error (parseOf (L.getD k [])).2.2:=by
 have e:L.getD k [] = L[k]:=by rw [List.getD_eq_getElem?_getD,List.getElem?_eq_getElem hk]; rfl
 rw [h,List.drop_eq_getElem_cons hk,rgvF,e]
theorem okCount_s {ws:List (List UInt8)} (h:okCount ws = true) (e:ws.getD 2 [] = [115]):ws.length = 6:=by
 unfold okCount at h
 rw [if_pos e] at h
 exact of_decide_eq_true h
theorem okCount_d {ws:List (List UInt8)} (h:okCount ws = true) (e:ws.getD 2 [] = [100]):ws.length = 4 ∨ ws.length = 6 ∨ ws.length = 8 ∨ ws.length = 10:=by
 unfold okCount at h
 rw [if_neg (by rw [e]; decide)] at h
 exact of_decide_eq_true h
structure MqI (w wr:World) (rb mb:Nat) (s:ByteArray) (z:Int) (L:List (List UInt8)) (k:Nat) (g v:List (Int × Int)) (gv vv:Value):Prop where
 kp:Kept w wr
 le:w.heap.size≤rb
 lt:rb < mb
 rr:Row4 43 wr rb (.string ⟨#[]⟩) (.int .u8 0) (.slice none 0 0) (.slice none 0 0)
 mr:Row4 43 wr mb (.string s) (.int .u8 z) gv vv
 og:OwnN (mb + 1) wr gv g
 ov:OwnN (mb + 1) wr vv v
 ne:∀ b,gv.ownBlock = some b→vv.ownBlock ≠ some b
 eq:rgv L = rgvF k g v (L.drop k)
 lg:g.length≤k
 lv:v.length≤k
theorem MqI.kept {w wr w':World} {rb mb:Nat} {s:ByteArray} {z:Int} {L:List (List UInt8)} {k:Nat} {g v:List (Int × Int)} {gv vv:Value} (H:MqI w wr rb mb s z L k g v gv vv) (K:Kept wr w'):MqI w w' rb mb s z L k g v gv vv :=
 ⟨H.kp.trans K,H.le,H.lt,H.rr.kept K,H.mr.kept K,own_keptK H.og K,own_keptK H.ov K,H.ne,H.eq,H.lg,H.lv⟩
theorem mqi_g {w wr W3 W4:World} {rb mb:Nat} {s:ByteArray} {z:Int} {L:List (List UInt8)} {k:Nat} {g v:List (Int × Int)} {gv vv:Value} {y0 y1:Int} {g4 cap4:Nat} (H:MqI w wr rb mb s z L k g v gv vv) (KA:Kept wr W3) (own4:W4.ownsRow (mb + 1) 26 2 (.slice (some ⟨g4,0,none⟩) (g.length + 1) cap4) (g.length + 1) (ncs g ++ [.int .i64 y0,.int .i64 y1])) (hg:W3.grownBy W4 gv.ownBlock) (hgg:gv.ownBlock = some g4 ∨ g4 = W3.heap.size) (hz:rgv L = rgvF (k + 1) (g ++ [(y0,y1)]) v (L.drop (k + 1))) :
  Row4 43 W4 mb (.string s) (.int .u8 z) gv vv∧MqI w (W4.setCell ⟨mb,2,none⟩ (.slice (some ⟨g4,0,none⟩) (g.length + 1) cap4)) rb mb s z L (k + 1) (g ++ [(y0,y1)]) v (.slice (some ⟨g4,0,none⟩) (g.length + 1) cap4) vv:=by
 have hM:=H.mr.kept KA
 have hR:=H.rr.kept KA
 have q1:=own_keptK H.og KA
 have q2:=own_keptK H.ov KA
 have n1:gv.ownBlock ≠ some mb:=own_row q1 hM (by decide)
 have n2:gv.ownBlock ≠ some rb:=own_row q1 hR (by decide)
 have hM4:Row4 43 W4 mb (.string s) (.int .u8 z) gv vv:=World.rowIs.of_block hM (hg.block _ hM.lt (fun e => n1 e.symm))
 have hR4:Row4 43 W4 rb (.string ⟨#[]⟩) (.int .u8 0) (.slice none 0 0) (.slice none 0 0):=World.rowIs.of_block hR (hg.block _ hR.lt (fun e => n2 e.symm))
 have hk4:Kept w W4:=Below.grown (H.kp.trans KA) hg (Nat.le_trans H.kp.size KA.size) (fun b hb => by have:=(q1.lt b hb).1; have:=H.le; have:=H.lt; omega)
 have hne:∀ b,gv.ownBlock = some b→vv.ownBlock ≠ some b:=H.ne
 have o:∀ b,b ≠ mb→(W4.setCell ⟨mb,2,none⟩ (.slice (some ⟨g4,0,none⟩) (g.length + 1) cap4)).heap[b]? = W4.heap[b]?:=fun b hb => Deep.blk_setCell_other _ _ _ _ hb
 have hg4:g4 ≠ mb:=by
  rcases hgg with h1 | h1
  ·
   intro e; exact n1 (by rw [h1,e])
  ·
   have:=hM.lt; omega
 refine ⟨hM4,hk4.setCell (by show w.heap.size≤mb; have:=H.le; have:=H.lt; omega) _,H.le,H.lt,World.rowIs.setOther hR4 (by show rb ≠ mb; have:=H.lt; omega) _,?_,?_,?_,fun b hb => ?_,hz,?_,?_⟩
 ·
  exact (World.rowIs.set hM4 2 _).congr (fun i hi => by
   match i,hi with
   | 0,_ => rfl
   | 1,_ => rfl
   | 2,_ => rfl
   | 3,_ => rfl)
 ·
  unfold OwnN
  rw [ncs_app,List.length_append,List.length_singleton]
  refine own_kept own4 fun b hb => o b ?_
  have:g4 = b:=by simpa [Value.ownBlock] using hb
  omega
 ·
  refine own_kept q2 fun b hb => (o b ?_).trans (hg.block b (q2.lt b hb).2 (fun e => hne b e.symm hb))
  intro e; subst e; exact own_row q2 hM (by decide) hb
 ·
  have hb':g4 = b:=by simpa [Value.ownBlock] using hb
  intro e
  rcases hgg with h1 | h1
  ·
   exact hne b (by rw [h1,hb']) e
  ·
   have:=(q2.lt b e).2; omega
 ·
  have:=H.lg; rw [List.length_append,List.length_singleton]; omega
 ·
  have:=H.lv; omega
theorem mqi_v {w wr W3 W4:World} {rb mb:Nat} {s:ByteArray} {z:Int} {L:List (List UInt8)} {k:Nat} {g v:List (Int × Int)} {gv vv:Value} {y0 y1:Int} {g4 cap4:Nat} (H:MqI w wr rb mb s z L k g v gv vv) (KA:Kept wr W3) (own4:W4.ownsRow (mb + 1) 26 2 (.slice (some ⟨g4,0,none⟩) (v.length + 1) cap4) (v.length + 1) (ncs v ++ [.int .i64 y0,.int .i64 y1])) (hg:W3.grownBy W4 vv.ownBlock) (hgg:vv.ownBlock = some g4 ∨ g4 = W3.heap.size) (hz:rgv L = rgvF (k + 1) g (v ++ [(y0,y1)]) (L.drop (k + 1))) :
  Row4 43 W4 mb (.string s) (.int .u8 z) gv vv∧MqI w (W4.setCell ⟨mb,3,none⟩ (.slice (some ⟨g4,0,none⟩) (v.length + 1) cap4)) rb mb s z L (k + 1) g (v ++ [(y0,y1)]) gv (.slice (some ⟨g4,0,none⟩) (v.length + 1) cap4):=by
 have hM:=H.mr.kept KA
 have hR:=H.rr.kept KA
 have q1:=own_keptK H.ov KA
 have q2:=own_keptK H.og KA
 have n1:vv.ownBlock ≠ some mb:=own_row q1 hM (by decide)
 have n2:vv.ownBlock ≠ some rb:=own_row q1 hR (by decide)
 have hM4:Row4 43 W4 mb (.string s) (.int .u8 z) gv vv:=World.rowIs.of_block hM (hg.block _ hM.lt (fun e => n1 e.symm))
 have hR4:Row4 43 W4 rb (.string ⟨#[]⟩) (.int .u8 0) (.slice none 0 0) (.slice none 0 0):=World.rowIs.of_block hR (hg.block _ hR.lt (fun e => n2 e.symm))
 have hk4:Kept w W4:=Below.grown (H.kp.trans KA) hg (Nat.le_trans H.kp.size KA.size) (fun b hb => by have:=(q1.lt b hb).1; have:=H.le; have:=H.lt; omega)
 have hne:∀ b,vv.ownBlock = some b→gv.ownBlock ≠ some b:=fun b h1 h2 => H.ne b h2 h1
 have o:∀ b,b ≠ mb→(W4.setCell ⟨mb,3,none⟩ (.slice (some ⟨g4,0,none⟩) (v.length + 1) cap4)).heap[b]? = W4.heap[b]?:=fun b hb => Deep.blk_setCell_other _ _ _ _ hb
 have hg4:g4 ≠ mb:=by
  rcases hgg with h1 | h1
  ·
   intro e; exact n1 (by rw [h1,e])
  ·
   have:=hM.lt; omega
 refine ⟨hM4,hk4.setCell (by show w.heap.size≤mb; have:=H.le; have:=H.lt; omega) _,H.le,H.lt,World.rowIs.setOther hR4 (by show rb ≠ mb; have:=H.lt; omega) _,?_,?_,?_,fun b hb => ?_,hz,?_,?_⟩
 ·
  exact (World.rowIs.set hM4 3 _).congr (fun i hi => by
   match i,hi with
   | 0,_ => rfl
   | 1,_ => rfl
   | 2,_ => rfl
   | 3,_ => rfl)
 ·
  refine own_kept q2 fun b hb => (o b ?_).trans (hg.block b (q2.lt b hb).2 (fun e => hne b e.symm hb))
  intro e; subst e; exact own_row q2 hM (by decide) hb
 ·
  unfold OwnN
  rw [ncs_app,List.length_append,List.length_singleton]
  refine own_kept own4 fun b hb => o b ?_
  have:g4 = b:=by simpa [Value.ownBlock] using hb
  omega
 ·
  intro e
  have hb':g4 = b:=by simpa [Value.ownBlock] using e
  rcases hgg with h1 | h1
  ·
   exact hne b (by rw [h1,hb']) hb
  ·
   have:=(q2.lt b hb).2; omega
 ·
  have:=H.lg; omega
 ·
  have:=H.lv; rw [List.length_append,List.length_singleton]; omega
set_option maxRecDepth 100000 in
set_option maxHeartbeats 40000000 in
theorem rreadM_any (ao:Option Addr) (n c:Nat) (ws:List (List UInt8)) (w:World) (h:RS w (.slice ao n c) ws) (hn2:n≤9223372036854775807) (hs:∀ x ∈ ws,x.length≤9223372036854775807) :
  Calls Tryz.prog 17 #[.slice ao n c] w fun e w' => Kept w w'∧RmIs w.heap.size w' e (readM ws):=by
 --%T
 have hn:n = ws.length:=by obtain ⟨_,_,e,_⟩:=h; simp at e; exact e.2.1
 have HS:=hid' (And.intro h (And.intro hn hs))
 obtain ⟨r,hr⟩:∃ r,r = readM ws:=⟨_,rfl⟩
 rw [← hr]
 have HR:=hid' (hr.trans (rreadM_eq ws).symm)
 clear h hs hr
 by_cases h0:n < 4
 ·
  have HE:=hid' (show r = .error 70 by rw [HR.out]; unfold rreadM; rw [if_pos (.inl (by omega))])
  have h0':(n:Int) < 4:=by omega
  clear hn
  --%E1
  go_enter Tryz.func17,Tryz.ntmps17
  go_wp2_with fail
  refine bodyPost_ret (v:=.tuple #[.agg #[.string ⟨#[]⟩,.int .u8 0,.slice none 0 0,.slice none 0 0],.int .i64 70]) (by simp [results,Tryz.results17,go_sem]) rfl ⟨?_,?_⟩
  ·
   exact (Kept.refl w).alloc _
  ·
   rw [HE.out]
   exact ⟨rfl,by decide⟩
 have h0':¬ (n:Int) < 4:=by omega
 have hnp:(0:Int) < (n:Int):=by omega
 have hn1p:(1:Int) < (n:Int):=by omega
 have hn2p:(2:Int) < (n:Int):=by omega
 have hnn:0 < n:=by omega
 have hnn1:1 < n:=by omega
 have hnn2:2 < n:=by omega
 obtain ⟨b,off,rfl,ck⟩:∃ b off,ao = some ⟨b,off,none⟩∧Hid (b < w.heap.size∧∀ j,j < n→w.cell? ⟨b,off + j,none⟩ = some (.string (bs (ws.getD j [])))):=by
  obtain ⟨ao',c',hv,hx⟩:=HS.out.1
  simp only [Value.slice.injEq] at hv
  obtain ⟨rfl,hn,rfl⟩:=hv
  obtain ⟨b,off,e,h1,h2⟩:=hx (by omega)
  exact ⟨b,off,e,h1,fun j hj => h2 j (by omega)⟩
 have KZ:=(Kept.refl w).alloc (.cells #[.string ⟨#[]⟩,.int .u8 0,.slice none 0 0,.slice none 0 0] 43)
 have c0:=(Below.cell KZ (p:=⟨b,off + 0,none⟩) ck.out.1).trans (ck.out.2 0 (by omega))
 have c1:=(Below.cell KZ (p:=⟨b,off + 1,none⟩) ck.out.1).trans (ck.out.2 1 (by omega))
 have c2:=(Below.cell KZ (p:=⟨b,off + 2,none⟩) ck.out.1).trans (ck.out.2 2 (by omega))
 rw [Nat.add_zero] at c0
 obtain ⟨s0,hs0⟩:∃ s,s = bs (ws.getD 0 []):=⟨_,rfl⟩
 obtain ⟨s1,hs1⟩:∃ s,s = bs (ws.getD 1 []):=⟨_,rfl⟩
 obtain ⟨s2,hs2⟩:∃ s,s = bs (ws.getD 2 []):=⟨_,rfl⟩
 rw [← hs0] at c0
 rw [← hs1] at c1
 rw [← hs2] at c2
 have x0:s0.toList = ws.getD 0 []:=by rw [hs0,ByteArray.toList_eq,bs_list]
 have x2:s2.toList = ws.getD 2 []:=by rw [hs2,ByteArray.toList_eq,bs_list]
 have HLN:=hid' (And.intro hn (And.intro hs0 (And.intro hs1 hs2)))
 --%U
 by_cases hm:ws.getD 0 [] = [46,109,111,100,101,108]
 rotate_left
 ·
  have HE:=hid' (show r = .error 70 by rw [HR.out]; unfold rreadM; rw [if_pos (.inr (.inl hm))])
  have bm:(s0.toList == [46,109,111,100,101,108]) = false:=by rw [x0]; simpa using hm
  clear hn hs0 hs1 hs2 x0 x2 hm
  --%E2
  go_enter Tryz.func17,Tryz.ntmps17
  go_wp2_with fail
  refine bodyPost_ret (v:=.tuple #[.agg #[.string ⟨#[]⟩,.int .u8 0,.slice none 0 0,.slice none 0 0],.int .i64 70]) (by simp [results,Tryz.results17,go_sem]) rfl ⟨?_,?_⟩
  ·
   exact (Kept.refl w).alloc _
  ·
   rw [HE.out]
   exact ⟨rfl,by decide⟩
 have bm:(s0.toList == [46,109,111,100,101,108]) = true:=by rw [x0,hm]; rfl
 by_cases hk:ws.getD 2 [] = [100] ∨ ws.getD 2 [] = [115]
 rotate_left
 ·
  have HE:=hid' (show r = .error 70 by rw [HR.out]; unfold rreadM; rw [if_pos (.inr (.inr (decide_eq_false hk)))])
  have bd:(s2.toList == [100]) = false:=by rw [x2]; simpa using fun e => hk (.inl e)
  have bt:(s2.toList == [115]) = false:=by rw [x2]; simpa using fun e => hk (.inr e)
  clear hn hs0 hs1 hs2 x0 x2 hm hk
  --%E3
  go_enter Tryz.func17,Tryz.ntmps17
  go_wp2_with fail
  refine bodyPost_ret (v:=.tuple #[.agg #[.string ⟨#[]⟩,.int .u8 0,.slice none 0 0,.slice none 0 0],.int .i64 70]) (by simp [results,Tryz.results17,go_sem]) rfl ⟨?_,?_⟩
  ·
   exact (Kept.refl w).alloc _
  ·
   rw [HE.out]
   exact ⟨rfl,by decide⟩
 --%V
 have HR2:=hid' (show r = if okCount ws = false then .error 70
   else if okName (ws.getD 1 []) = false then .error 71
   else rbodyM (ws.getD 1 []) (((ws.getD 2 []).getD 0 0).toNat:Int) (rgv (ws.drop 3)) by
  rw [HR.out,rbodyM_eq]
  unfold rreadM
  have hA:¬ (ws.length < 4 ∨ ws.getD 0 [] ≠ [46,109,111,100,101,108] ∨ okKind ws = false):=by
   rintro (e | e | e)
   ·
    omega
   ·
    exact e hm
   ·
    exact absurd hk (of_decide_eq_false e)
  rw [if_neg hA]
  first | done | (cases nuL [] (ws.drop 3) <;> rfl))
 obtain ⟨zk,hzk⟩:∃ z:Int,z = (((ws.getD 2 []).getD 0 0).toNat:Int):=⟨_,rfl⟩
 have hcnt:okCount ws = true→n≤10:=by
  intro h
  unfold okCount at h
  split at h
  ·
   have:=of_decide_eq_true h; omega
  ·
   have:=of_decide_eq_true h; omega
 have hl1:s1.size≤9223372036854775807:=by
  rw [hs1,bs_size]
  refine HS.out.2.2 _ ?_
  rw [List.getD_eq_getElem?_getD,List.getElem?_eq_getElem (by omega)]
  exact List.getElem_mem _
 have h2s:s2.size = 1∧(∀ h:0 < s2.size,(s2[0].toNat:Int) = zk):=by
  have hl2:s2.size = (ws.getD 2 []).length:=by rw [hs2,bs_size]
  refine ⟨by rw [hl2]; rcases hk with e | e <;> rw [e] <;> rfl,fun h => ?_⟩
  rw [hzk,show (ws.getD 2 []).getD 0 0 = s2[0] by rw [← x2,ByteArray.toList_eq,List.getD_eq_getElem?_getD,bl_at' s2 0 h]; rfl]
 --%W
 have hsz2:0 < s2.size:=by omega
 have hsz2':(0:Int) < (s2.size:Int):=by omega
 have hz0:(s2[0].toNat:Int) = zk:=h2s.2 hsz2
 rw [← hzk] at HR2
 have hcase:(ws.getD 2 [] = [115]∧(s2.toList == [115]) = true∧(s2.toList == [100]) = false) ∨ (ws.getD 2 [] = [100]∧(s2.toList == [115]) = false∧(s2.toList == [100]) = true):=by
  rcases hk with e | e
  ·
   exact .inr ⟨e,by rw [x2,e]; decide,by rw [x2,e]; decide⟩
  ·
   exact .inl ⟨e,by rw [x2,e]; decide,by rw [x2,e]; decide⟩
 --%X1
 by_cases hc:okCount ws = true
 rotate_left
 ·
  have HE:=hid' (show r = .error 70 by rw [HR2.out,if_pos (by simpa using hc)])
  have hcf:okCount ws = false:=by simpa using hc
  rcases hcase with ⟨e,bt,bd⟩ | ⟨e,bt,bd⟩
  ·
   have n6:¬ n = 6:=by
    intro e6
    unfold okCount at hcf
    rw [if_pos e] at hcf
    exact of_decide_eq_false hcf (by omega)
   have n6':((n:Int) == 6) = false:=by simpa using (show ¬ (n:Int) = 6 by omega)
   clear hn hs0 hs1 hs2 x0 x2 hm hk hcf e hzk hcnt h2s hz0 hsz2 hsz2' hl1 hc
   --%E4
   go_enter Tryz.func17,Tryz.ntmps17
   go_wp2_with fail
   refine bodyPost_ret (v:=.tuple #[.agg #[.string ⟨#[]⟩,.int .u8 0,.slice none 0 0,.slice none 0 0],.int .i64 70]) (by simp [results,Tryz.results17,go_sem]) rfl ⟨?_,?_⟩
   ·
    exact (Kept.refl w).alloc _
   ·
    rw [HE.out]
    exact ⟨rfl,by decide⟩
  ·
   have n6:¬ n = 4∧¬ n = 6∧¬ n = 8∧¬ n = 10:=by
    unfold okCount at hcf
    rw [if_neg (by rw [e]; decide)] at hcf
    have:=of_decide_eq_false hcf
    omega
   have i4:¬ (n:Int) = 4:=by omega
   have m4:((n:Int) != 4) = true:=by simpa using i4
   have i6:¬ (n:Int) = 6:=by omega
   have m6:((n:Int) != 6) = true:=by simpa using i6
   have i8:¬ (n:Int) = 8:=by omega
   have m8:((n:Int) != 8) = true:=by simpa using i8
   have i10:¬ (n:Int) = 10:=by omega
   have m10:((n:Int) != 10) = true:=by simpa using i10
   obtain ⟨k4,k6,k8,k10⟩:=n6
   clear hn hs0 hs1 hs2 x0 x2 hm hk hcf e hzk hcnt h2s hz0 hsz2 hsz2' hl1 hc
   --%E5
   go_enter Tryz.func17,Tryz.ntmps17
   go_wp2_with fail
   refine bodyPost_ret (v:=.tuple #[.agg #[.string ⟨#[]⟩,.int .u8 0,.slice none 0 0,.slice none 0 0],.int .i64 70]) (by simp [results,Tryz.results17,go_sem]) rfl ⟨?_,?_⟩
   ·
    exact (Kept.refl w).alloc _
   ·
    rw [HE.out]
    exact ⟨rfl,by decide⟩
 --%X2
 have hn10:n≤10:=hcnt hc
 rw [if_neg (by rw [hc]; decide)] at HR2
 have hnm:=fun V => rname_any s1 V hl1
 rw [show s1.data.toList = ws.getD 1 [] by rw [hs1,bs_list]] at hnm
 --%X3
 have hcond:(((s2.toList == [115]) = true∧(s2.toList == [100]) = false)∧n = 6) ∨ (((s2.toList == [115]) = false∧(s2.toList == [100]) = true)∧(n = 4 ∨ n = 6 ∨ n = 8 ∨ n = 10)):=by
  rcases hcase with ⟨e,b1,b2⟩ | ⟨e,b1,b2⟩
  ·
   exact .inl ⟨⟨b1,b2⟩,hn.trans (okCount_s hc e)⟩
  ·
   refine .inr ⟨⟨b1,b2⟩,?_⟩
   have h4:=okCount_d hc e
   rw [← hn] at h4
   exact h4
 --%A
 have HCO:=hid' hcond
 have hkt:(s2.toList == [115]) = true ∨ (s2.toList == [100]) = true:=by
  rcases hcond with h | h
  ·
   exact .inl h.1.1
  ·
   exact .inr h.1.2
 clear hcase hcond hc hcnt hk hm h2s x0 x2 hs0 hs1 hs2 hn hzk
 have hZr:=Row4.alloc 43 w (.string ⟨#[]⟩) (.int .u8 0) (.slice none 0 0) (.slice none 0 0)
 --%E6
 go_enter Tryz.func17,Tryz.ntmps17
 go_upto_region 2 with fail
 generalize w.alloc (.cells #[.string ⟨#[]⟩,.int .u8 0,.slice none 0 0,.slice none 0 0] 43) = W0 at KZ c0 c1 c2 hZr ⊢
 obtain ⟨rb,hrb⟩:∃ q,q = w.heap.size:=⟨_,rfl⟩
 rw [← hrb] at hZr ⊢
 have HRB:=hid' hrb
 clear hrb
 have HW0:=hid' (And.intro KZ hZr)
 clear KZ hZr
 go_cut [30] (fun v wc => v = .bool false∧Hid (wc = W0))
 case first =>
  rcases hkt with e | e
  ·
   rcases HCO.out with ⟨⟨b1,b2⟩,hx6⟩ | ⟨⟨b1,b2⟩,hx6⟩
   ·
    clear hx6
    go_wp2_with fail
    go_meet
    case rel => exact ⟨rfl,rfl⟩
   ·
    rw [b1] at e; cases e
  ·
   go_wp2_with fail
   go_meet
   case rel => exact ⟨rfl,rfl⟩
 case rest =>
 obtain ⟨rfl,hwc⟩:=hcut
 obtain rfl:=hwc.out
 clear hwc hkt
 go_upto_region 4 with fail
 go_cut [61] (fun v wc' => v = .bool false∧Hid (wc' = wc))
 case first =>
  rcases HCO.out with ⟨⟨b1,b2⟩,rfl⟩ | ⟨⟨b1,b2⟩,rfl | rfl | rfl | rfl⟩ <;>
  ·
   go_wp2_with fail
   go_meet
   case rel => exact ⟨rfl,rfl⟩
 case rest =>
 obtain ⟨rfl,hwc⟩:=hcut
 obtain rfl:=hwc.out
 clear hwc HCO
 --%B
 cases hnb:okName (ws.getD 1 []) with
 | false =>
  --%N
  rw [hnb] at hnm
  have HE:=hid' (show r = .error 71 by rw [HR2.out,if_pos hnb])
  have hZr:=HW0.out.2
  have d0:=hZr.c0
  have d1:=hZr.c1
  have d2:=hZr.c2
  have d3:=hZr.c3
  have z:=World.rowIs.frozen hZr
  clear hZr
  go_wp2_with fail
  refine (hnm _).mono ?_
  rintro e w1 ⟨rfl,rfl⟩
  go_wp2_with fail
  refine bodyPost_ret (v:=.tuple #[.agg #[.string ⟨#[]⟩,.int .u8 0,.slice none 0 0,.slice none 0 0],.int .i64 71]) (by simp [results,Tryz.results17,go_sem,d0,d1,d2,d3]) rfl ⟨?_,?_⟩
  ·
   exact kept_put4 HW0.out.1 (by rw [HRB.out]; exact Nat.le_refl _) _ _ _ _
  ·
   rw [HE.out]
   exact ⟨rfl,by decide⟩
 | true =>
  --%M
  rw [hnb] at hnm
  rw [if_neg (by rw [hnb]; decide)] at HR2
  have HNB:=hid' hnb
  clear hnb
  go_wp2_with fail
  refine (hnm _).mono ?_
  rintro e w1 ⟨rfl,rfl⟩
  go_upto_region 8 with fail
  go_cut [5] (fun v5 wx => ∃ mb,v5 = .pointer (some ⟨mb,0,none⟩)∧Hid (Kept w1 wx∧Row4 43 wx mb (.string s1) (.int .u8 zk) (.slice none 0 0) (.slice none 0 0)∧w1.heap.size≤mb))
  case first =>
   --%R
   have sS:=hid' (fun (V:World) (K:Kept w1 V) => And.intro ((Below.cell K (p:=⟨b,off + 1,none⟩) (Nat.lt_of_lt_of_le ck.out.1 HW0.out.1.size)).trans c1) ((Below.cell K (p:=⟨b,off + 2,none⟩) (Nat.lt_of_lt_of_le ck.out.1 HW0.out.1.size)).trans c2))
   have KT:Kept w1 w1.drew:=(Kept.refl _).drew
   refine wp_region_held_drew (S:=fun w' => w'.cell? ⟨b,off + 1,none⟩ = some (.string s1)∧w'.cell? ⟨b,off + 2,none⟩ = some (.string s2)) (by kernel_rfl) (sS.out _ KT) (fun hHeld => ?_)
   generalize w1.drew = Wd at KT hHeld ⊢
   refine tk 0 hHeld ?_
   refine tk 1 hHeld ?_
   refine tk 2 hHeld ?_
   refine tk 3 hHeld ?_
   refine tk 4 hHeld ?_
   refine tk 5 hHeld ?_
   refine tk 6 hHeld ?_
   refine tk 7 hHeld ?_
   refine rdy 8 fun K hK => ?_
   go_simp
   refine hK.out _ _ (sS.out _ (KT.alloc _)) (fun hHeld => ?_)
   clear hK K
   refine rdy 9 fun K hK => ?_
   have hN:=Row4.alloc 43 Wd (.string ⟨#[]⟩) (.int .u8 0) (.slice none 0 0) (.slice none 0 0)
   have KT2:=KT.alloc (.cells #[.string ⟨#[]⟩,.int .u8 0,.slice none 0 0,.slice none 0 0] 43)
   have hmw:=KT.size
   obtain ⟨mb,hmb⟩:∃ q,q = Wd.heap.size:=⟨_,rfl⟩
   rw [← hmb] at hN hmw ⊢
   generalize Wd.alloc (.cells #[.string ⟨#[]⟩,.int .u8 0,.slice none 0 0,.slice none 0 0] 43) = WM at hN KT2 hHeld ⊢
   clear hmb
   have HM:=hid' (And.intro hN (And.intro KT2 hmw))
   have m0:=hN.c0
   have m1:=hN.c1
   have m2:=hN.c2
   have m3:=hN.c3
   have mz:=World.rowIs.frozen hN
   clear hN KT2 hmw
   go_simp
   refine hK.out _ _ (sS.out _ (kept_put4 HM.out.2.1 HM.out.2.2 _ _ _ _)) (fun hHeld => ?_)
   clear hK K
   refine dn ?_
   go_wp2_with fail
   go_meet
   case rel =>
    refine ⟨mb,rfl,kept_put4 HM.out.2.1 HM.out.2.2 _ _ _ _,?_,HM.out.2.2⟩
    exact (World.rowIs.set (World.rowIs.set (World.rowIs.set (World.rowIs.set HM.out.1 0 _) 1 _) 2 _) 3 _).congr (fun i hi => by
     match i,hi with
     | 0,_ => rfl
     | 1,_ => rfl
     | 2,_ => rfl
     | 3,_ => rfl)
  case rest =>
  --%C
  obtain ⟨mb,rfl,HC⟩:=hcut
  obtain ⟨i0,hi,hz0',hz1,hz2⟩:=info_parts info_num
  have HI0:Hid (MqI w wc rb mb s1 zk (ws.drop 3) 0 [] [] (.slice none 0 0) (.slice none 0 0)):=⟨HW0.out.1.trans HC.out.1,by rw [HRB.out]; exact Nat.le_refl _,Nat.lt_of_lt_of_le HW0.out.2.lt HC.out.2.2,HW0.out.2.kept HC.out.1,HC.out.2.1,World.ownsRow_nil _ _ _ _,World.ownsRow_nil _ _ _ _,fun b h => by simp [Value.ownBlock] at h,rfl,Nat.le_refl _,Nat.le_refl _⟩
  have HLD:=hid' (show (ws.drop 3).length = n - 3 by rw [List.length_drop,HLN.out.1])
  clear HC c0 c1 c2 hnm hz0 hsz2 hsz2' bm
  go_wp2_with fail
  go_loopw [6] (fun vi wr => ∃ (i:Nat) (g v:List (Int × Int)) (gv vv:Value),3≤i∧i≤n∧vi = .int .i64 (i:Int)∧Hid (MqI w wr rb mb s1 zk (ws.drop 3) (i - 3) g v gv vv)) (fun vi _ => n - (intOf vi).toNat)
  case atStart => exact ⟨3,[],[],_,_,Nat.le_refl _,by omega,rfl,HI0.out⟩
  case round =>
   obtain ⟨i,g,v,gv,vv,hi3,hin,rfl,H⟩:=hrel
   clear HI0
   by_cases hit:i < n
   ·
    --%D
    have hii:(i:Int) < (n:Int):=by omega
    have hi0:(0:Int)≤(i:Int):=by omega
    have hgl:=H.out.lg
    have hvl:=H.out.lv
    have ci:=(Below.cell H.out.kp (p:=⟨b,off + i,none⟩) ck.out.1).trans (ck.out.2 i hit)
    have hsi:(bs (ws.getD i [])).size≤maxLen:=by
     rw [bs_size]
     unfold maxLen
     have:(ws.getD i []).length≤9223372036854775807:=by
      refine HS.out.2.2 _ ?_
      rw [List.getD_eq_getElem?_getD,List.getElem?_eq_getElem (by rw [← HLN.out.1]; exact hit)]
      exact List.getElem_mem _
     omega
    have hpa:=fun V => rparse_any (bs (ws.getD i [])) V hsi
    rw [bs_list] at hpa
    have HZ:=hid' (rgv_step H.out.eq (by rw [HLD.out]; omega))
    have hge:(ws.drop 3).getD (i - 3) [] = ws.getD i []:=by
     rw [List.getD_eq_getElem?_getD,List.getElem?_drop,List.getD_eq_getElem?_getD,show 3 + (i - 3) = i by omega]
    rw [hge] at HZ
    generalize bs (ws.getD i []) = si at ci hpa
    obtain ⟨⟨y0,y1,yc⟩,hy⟩:∃ y,y = parseOf (ws.getD i []):=⟨_,rfl⟩
    rw [← hy] at hpa HZ
    unfold numE at hpa
    simp only at hpa HZ
    clear hge hy hsi
    go_wp2_with fail
    refine (hpa _).mono ?_
    rintro e w5 ⟨hk5,rfl⟩
    have HQ:=hid' (H.out.kept hk5)
    clear hk5 hpa ci
    by_cases hyc:yc = 0
    rotate_left
    ·
     have hyc':(yc == 0) = false:=by simpa using hyc
     have HE:=hid' (show r = .error yc by rw [HR2.out,HZ.out,if_neg hyc]; rfl)
     have KA:=(Kept.refl w5).alloc (.cells #[.int .i64 y0,.int .i64 y1] 26)
     have hrr:=HQ.out.rr.kept KA
     have d0:=hrr.c0
     have d1:=hrr.c1
     have d2:=hrr.c2
     have d3:=hrr.c3
     have z:=World.rowIs.frozen hrr
     have HKE:=hid' (HQ.out.kp.trans KA)
     clear hrr KA
     go_wp2_with fail
     refine bodyPost_ret (v:=.tuple #[.agg #[.string ⟨#[]⟩,.int .u8 0,.slice none 0 0,.slice none 0 0],.int .i64 yc]) (by simp [results,Tryz.results17,go_sem,d0,d1,d2,d3]) rfl ⟨?_,?_⟩
     ·
      exact kept_put4 HKE.out (by rw [HRB.out]; exact Nat.le_refl _) _ _ _ _
     ·
      rw [HE.out]
      exact ⟨rfl,hyc⟩
    subst hyc
    rw [if_pos rfl] at HZ
    have KA:=((Kept.refl w5).alloc (.cells #[.int .i64 y0,.int .i64 y1] 26)).alloc (.cells #[.int .i64 y0,.int .i64 y1] 26)
    have hM1:=HQ.out.mr.kept ((Kept.refl w5).alloc (.cells #[.int .i64 y0,.int .i64 y1] 26))
    have e2a:=hM1.c2
    have e3a:=hM1.c3
    clear hM1
    by_cases hpar:(i - 3) % 2 = 0
    ·
     have hm0:(i:Int).tmod 2 = 1:=by rw [Int.tmod_eq_emod_of_nonneg (by omega)]; omega
     have hm0':((i:Int).tmod 2 == 1) = true:=by simpa using hm0
     rw [if_pos hpar] at HZ
     go_wp2_with (at_builtin; refine wpList_append_lies _ rfl (.tmp 98) (.tmp 100) 27 rfl (mb + 1) 26 i0 (.agg #[.int .i64 0,.int .i64 0]) 2 16 und_nums hi hz0' hz1 hz2 rfl (by decide) gv g.length (ncs g) rfl (by exact own_keptK HQ.out.og KA) ⟨w5.heap.size + 1,0,none⟩ 1 1 [.int .i64 y0,.int .i64 y1] rfl rfl (by exact cell_two' w5 _ _ _ _ _) (fun u hu => by simp at hu; rcases hu with rfl | rfl <;> rfl) (by omega) (by unfold maxLen; omega) (by omega) (by have:=HQ.out.mr.lt; simp; omega) _ rfl ?_)
     intro g4 cap4 W4 own4 hg4 hgg _
     have HM:=hid' (mqi_g HQ.out KA own4 hg4 (by simpa using hgg) HZ.out)
     have hr4:=HM.out.1
     have e4:=hr4.c2
     have f4:=World.rowIs.frozen hr4
     clear own4 hg4 hgg KA e2a e3a hr4
     go_wp2_with fail
     go_roundw
     case rel => exact ⟨i + 1,_,_,_,_,by omega,by omega,by go_num,by rw [show i + 1 - 3 = i - 3 + 1 by omega]; exact HM.out.2⟩
     case measure => show n - ((i:Int) + 1).toNat < n - (i:Int).toNat; omega
    ·
     have hm0:¬ (i:Int).tmod 2 = 1:=by rw [Int.tmod_eq_emod_of_nonneg (by omega)]; omega
     have hm0':((i:Int).tmod 2 == 1) = false:=by simpa using hm0
     rw [if_neg hpar] at HZ
     go_wp2_with (at_builtin; refine wpList_append_lies _ rfl (.tmp 104) (.tmp 106) 27 rfl (mb + 1) 26 i0 (.agg #[.int .i64 0,.int .i64 0]) 2 16 und_nums hi hz0' hz1 hz2 rfl (by decide) vv v.length (ncs v) rfl (by exact own_keptK HQ.out.ov KA) ⟨w5.heap.size + 1,0,none⟩ 1 1 [.int .i64 y0,.int .i64 y1] rfl rfl (by exact cell_two' w5 _ _ _ _ _) (fun u hu => by simp at hu; rcases hu with rfl | rfl <;> rfl) (by omega) (by unfold maxLen; omega) (by omega) (by have:=HQ.out.mr.lt; simp; omega) _ rfl ?_)
     intro g4 cap4 W4 own4 hg4 hgg _
     have HM:=hid' (mqi_v HQ.out KA own4 hg4 (by simpa using hgg) HZ.out)
     have hr4:=HM.out.1
     have e4:=hr4.c3
     have f4:=World.rowIs.frozen hr4
     clear own4 hg4 hgg KA e2a e3a hr4
     go_wp2_with fail
     go_roundw
     case rel => exact ⟨i + 1,_,_,_,_,by omega,by omega,by go_num,by rw [show i + 1 - 3 = i - 3 + 1 by omega]; exact HM.out.2⟩
     case measure => show n - ((i:Int) + 1).toNat < n - (i:Int).toNat; omega
   ·
    --%E
    have hii:¬ (i:Int) < (n:Int):=by omega
    obtain rfl:i = n:=by omega
    have HE:=hid' (show r = mendC ⟨ws.getD 1 [],zk,g,v⟩ by
     rw [HR2.out,H.out.eq,List.drop_eq_nil_of_le (by rw [HLD.out]; exact Nat.le_refl _)]
     rfl)
    have hgl:=H.out.lg
    have hvl:=H.out.lv
    obtain ⟨b1,k1,rfl⟩:=own_shape H.out.og
    obtain ⟨b2,k2,rfl⟩:=own_shape H.out.ov
    have hM:=H.out.mr
    have m0:=hM.c0
    have m1:=hM.c1
    have m2:=hM.c2
    have m3:=hM.c3
    have hva:=rvalidM_any s1 zk b1 b2 g.length k1 v.length k2 g v wr hl1 (OwnN.nsl H.out.og) (OwnN.nsl H.out.ov) (by omega) (by omega)
    have hbx:s1.data.toList = ws.getD 1 []:=by rw [HLN.out.2.2.1,bs_list]
    rw [hbx] at hva
    have HBX:=hid' hbx
    unfold mendC at HE
    simp only at HE
    clear hM hbx
    generalize okM (ws.getD 1 []) zk g v = ok at hva HE
    go_wp2_with fail
    refine hva.mono ?_
    rintro e w6 ⟨hk6,rfl⟩
    have HQ:=hid' (H.out.kept hk6)
    have hrr:=HQ.out.rr
    have d0:=hrr.c0
    have d1:=hrr.c1
    have d2:=hrr.c2
    have d3:=hrr.c3
    have z:=World.rowIs.frozen hrr
    have hM:=HQ.out.mr
    clear m0 m1 m2 m3 hva hk6
    have m0:=hM.c0
    have m1:=hM.c1
    have m2:=hM.c2
    have m3:=hM.c3
    clear hM hrr
    cases ok
    ·
     rw [if_neg (by decide)] at HE
     go_wp2_with fail
     refine bodyPost_ret (v:=.tuple #[.agg #[.string ⟨#[]⟩,.int .u8 0,.slice none 0 0,.slice none 0 0],.int .i64 50]) (by simp [results,Tryz.results17,go_sem,d0,d1,d2,d3]) rfl ⟨?_,?_⟩
     ·
      exact kept_put4 HQ.out.kp (by rw [HRB.out]; exact Nat.le_refl _) _ _ _ _
     ·
      rw [HE.out]
      exact ⟨rfl,by decide⟩
    ·
     rw [if_pos rfl] at HE
     go_wp2_with fail
     refine bodyPost_ret (v:=.tuple #[.agg #[.string s1,.int .u8 zk,.slice b1 g.length k1,.slice b2 v.length k2],.int .i64 0]) (by simp [results,Tryz.results17,go_sem,d0,d1,d2,d3]) rfl ⟨?_,?_⟩
     ·
      exact kept_put4 HQ.out.kp (by rw [HRB.out]; exact Nat.le_refl _) _ _ _ _
     ·
      rw [HE.out]
      have hs:=md_store (x0:=.string s1) (x1:=.int .u8 zk) HQ.out.rr HQ.out.og HQ.out.ov
      have hle:w.heap.size≤mb + 1:=by have:=HQ.out.le; have:=HQ.out.lt; omega
      refine ⟨_,rfl,_,_,?_,own_mono hs.2.1 hle,own_mono hs.2.2 hle⟩
      rw [← HBX.out,X.bs_back]
end V
end Go.Proofs.YtembglnonhlnkaaGreatDoor

namespace Go.Proofs.YtembglnonhlnkaaGreatDoor
open Go.RowKit
namespace V
open Q (hid' parseOf Lett ErrV Tab okN textOf)
open X (bs OwnS RS strs bs_list bs_size)
def rmS:Except Int Md→Md
 | .error _ => Md.zero
 | .ok m => m
def rmC:Except Int Md→Int
 | .error x => x
 | .ok _ => 0
theorem rm_form {B:Nat} {w:World} {e:Ending} {r:Except Int Md} (h:RmIs B w e r):∃ a1 c1 a2 c2,e = .returned (.tuple #[.agg #[.string (bs (rmS r).name),.int .u8 (rmS r).kind,.slice a1 (rmS r).gs.length c1,.slice a2 (rmS r).vs.length c2],.int .i64 (rmC r)])∧NSl w (.slice a1 (rmS r).gs.length c1) (rmS r).gs∧NSl w (.slice a2 (rmS r).vs.length c2) (rmS r).vs:=by
 cases r with
 | error x =>
  obtain ⟨rfl,_⟩:=h
  exact ⟨none,0,none,0,rfl,nsl_nil w,nsl_nil w⟩
 | ok m =>
  obtain ⟨v,rfl,gv,vv,rfl,o1,o2⟩:=h
  obtain ⟨a1,c1,rfl⟩:=own_shape o1
  obtain ⟨a2,c2,rfl⟩:=own_shape o2
  exact ⟨a1,c1,a2,c2,rfl,OwnN.nsl o1,OwnN.nsl o2⟩
theorem rm_len (ws:List (List UInt8)):(rmS (readM ws)).gs.length≤4∧(rmS (readM ws)).vs.length≤4:=by
 cases h:readM ws with
 | error x => exact ⟨Nat.zero_le _,Nat.zero_le _⟩
 | ok m =>
  have:=okM_kind (readM_ok h)
  show m.gs.length≤4∧m.vs.length≤4
  omega
def wmL (m:Md):List (List UInt8):=if okM m.name m.kind m.gs m.vs = true then mwords m else []
def wmC (m:Md):Int:=if okM m.name m.kind m.gs m.vs = true then 0 else 50
theorem wm_form {B:Nat} {w:World} {e:Ending} {m:Md} (h:WmIs B w e m):∃ a c,e = .returned (.tuple #[.slice a (wmL m).length c,.int .i64 (wmC m)])∧RS w (.slice a (wmL m).length c) (wmL m):=by
 unfold wmL wmC
 rcases h with ⟨h,rfl⟩ | ⟨h,u,rfl,o⟩
 ·
  rw [if_neg (by rw [h]; decide),if_neg (by rw [h]; decide)]
  exact ⟨none,0,rfl,none,0,rfl,fun h => absurd h (by decide)⟩
 ·
  rw [if_pos h,if_pos h]
  obtain ⟨a,c,rfl⟩:=o.shape
  exact ⟨a,c,rfl,o.rs⟩
theorem wm_len (m:Md):(wmL m).length≤100:=by
 unfold wmL
 split
 ·
  rename_i h
  have h1:=okM_kind h
  have h2:=mw_len m.gs m.vs m.gs.length
  unfold mwords
  rw [List.length_append]
  simp only [List.length_cons,List.length_nil]
  omega
 ·
  exact Nat.zero_le _
set_option maxRecDepth 100000 in
set_option maxHeartbeats 8000000 in
theorem models7_any (ao:Option Addr) (nw cw:Nat) (ws:List (List UInt8)) (s:ByteArray) (k:Int) (a1 a2:Option Addr) (n c n2 c2:Nat) (gs vs:List (Int × Int)) (w:World) (hL:Lett w) (hE:ErrV w) (hT:Tab w) (hs:s.size≤9223372036854775807) (h1:NSl w (.slice a1 n c) gs) (h2:NSl w (.slice a2 n2 c2) vs) (hn:n≤4611686018427387903) (hm:n2≤4611686018427387903) (h3:RS w (.slice ao nw cw) ws) (hnw:(nw + 256) * 16≤140737488355328) (hws:∀ x ∈ ws,x.length≤9223372036854775807) :
  Calls Tryz.prog 4 #[.slice ao nw cw,.agg #[.string s,.int .u8 k,.slice a1 n c,.slice a2 n2 c2]] w fun e w' => Kept w w'∧e = .returned (.bool true):=by
 have HAW:=hid' (fun V (K:Kept w V) => awake7_any V (hL.kept K) (hE.kept K) (hT.kept K))
 have HLE:=hid' (fun V (K:Kept w V) => lent7_any ao nw cw ws V (h3.kept K) (by omega))
 have hln:nw = ws.length:=rs_len h3
 have HR1:=hid' (fun V (K:Kept w V) a c (hr:RS V (.slice a nw c) ws) => readM_any a nw c ws V (hL.kept K) (hE.kept K) hr (by omega) hws)
 have HR2:=hid' (fun V (K:Kept w V) => rreadM_any ao nw cw ws V (h3.kept K) (by omega) hws)
 have HW1:=hid' (fun V (K:Kept w V) => writeM_any s k a1 a2 n c n2 c2 gs vs V (hL.kept K) (hT.kept K) hs (h1.kept K) (h2.kept K) hn hm)
 have HW2:=hid' (fun V (K:Kept w V) => rwriteM_any s k a1 a2 n c n2 c2 gs vs V hs (h1.kept K) (h2.kept K) hn hm)
 have HWH:=hid' (fun V (K:Kept w V) B v (hv:LentW B V v ws) => whole7_any B v ao nw cw ws V hv (h3.kept K) (by omega))
 have HML:=hid' (rm_len ws)
 have HWL:=hid' (wm_len ⟨s.data.toList,k,gs,vs⟩)
 have HLN:=hid' hln
 generalize hrr:readM ws = r at HR1 HR2 HML
 generalize hmm:(⟨s.data.toList,k,gs,vs⟩:Md) = md at HW1 HW2 HWL
 clear hL hE hT h1 h2 h3 hws hrr hmm hln
 go_enter Tryz.func4,Tryz.ntmps4
 go_wp2_with fail
 have hK:=(Kept.refl w).alloc (.cells #[.string s,.int .u8 k,.slice a1 n c,.slice a2 n2 c2] 43)
 have hA:=RowL.alloc 43 w [.string s,.int .u8 k,.slice a1 n c,.slice a2 n2 c2]
 generalize w.alloc (.cells #[.string s,.int .u8 k,.slice a1 n c,.slice a2 n2 c2] 43) = W0 at hK hA ⊢
 obtain ⟨p,hp⟩:∃ q,q = w.heap.size:=⟨_,rfl⟩
 rw [← hp] at hA ⊢
 clear hp
 refine (HAW.out _ hK).mono ?_
 rintro e w1 ⟨hk1,rfl⟩
 have HK:=hid' (hK.trans hk1)
 have HA:=hid' (hA.kept hk1)
 clear hK hA hk1
 go_wp2_with fail
 refine (HLE.out _ HK.out).mono ?_
 rintro e w2 ⟨hk2,v,rfl,hv⟩
 have HK:=hid' (HK.out.trans hk2)
 have HA:=hid' (HA.out.kept hk2)
 have hrs:=hv.rs
 have HV:=hid' hv
 obtain ⟨g,cap,rfl,_⟩:=hv
 rw [← HLN.out] at hrs HV ⊢
 have hrd:=HR1.out _ HK.out _ _ hrs
 clear hk2 hrs
 go_wp2_with fail
 refine hrd.mono ?_
 rintro e w3 ⟨hk3,hres⟩
 obtain ⟨b1,l1,b2,l2,rfl,o1,o2⟩:=rm_form hres
 have HK:=hid' (HK.out.trans hk3)
 have HA:=hid' (HA.out.kept hk3)
 have HV:=hid' (HV.out.kept hk3)
 have HO:=hid' (And.intro o1 o2)
 obtain ⟨hg1,hg2⟩:=HML.out
 obtain ⟨rs1,hrs1⟩:∃ t,t = bs (rmS r).name:=⟨_,rfl⟩
 obtain ⟨rk,hrk⟩:∃ t,t = (rmS r).kind:=⟨_,rfl⟩
 obtain ⟨rg,hrg⟩:∃ t,t = (rmS r).gs.length:=⟨_,rfl⟩
 obtain ⟨rv,hrv⟩:∃ t,t = (rmS r).vs.length:=⟨_,rfl⟩
 obtain ⟨rc,hrc⟩:∃ t,t = rmC r:=⟨_,rfl⟩
 rw [← hrg,← hrv] at HO
 rw [← hrs1,← hrk,← hrg,← hrv,← hrc]
 rw [← hrg] at hg1
 rw [← hrv] at hg2
 have HRE:=hid' (And.intro hrs1 (And.intro hrk (And.intro hrg (And.intro hrv hrc))))
 clear hk3 hrd hres o1 o2 hrs1 hrk hrg hrv hrc
 go_wp2_with fail
 have kC:=(Kept.refl w3).alloc (.cells #[.string rs1,.int .u8 rk,.slice b1 rg l1,.slice b2 rv l2] 43)
 have hC:=RowL.alloc 43 w3 [.string rs1,.int .u8 rk,.slice b1 rg l1,.slice b2 rv l2]
 have HK:=hid' (HK.out.trans kC)
 have HA:=hid' (HA.out.kept kC)
 have HV:=hid' (HV.out.kept kC)
 have HO:=hid' (And.intro (HO.out.1.kept kC) (HO.out.2.kept kC))
 generalize w3.alloc (.cells #[.string rs1,.int .u8 rk,.slice b1 rg l1,.slice b2 rv l2] 43) = W3 at HK HA HV HO hC ⊢
 obtain ⟨pc,hpc⟩:∃ q,q = w3.heap.size:=⟨_,rfl⟩
 rw [← hpc] at hC ⊢
 have HC:=hid' hC
 clear hpc kC hC
 refine (HR2.out _ HK.out).mono ?_
 rintro e w4 ⟨hk4,hres⟩
 obtain ⟨d1,m1,d2,m2,rfl,o1,o2⟩:=rm_form hres
 have HK:=hid' (HK.out.trans hk4)
 have HA:=hid' (HA.out.kept hk4)
 have HV:=hid' (HV.out.kept hk4)
 have HC:=hid' (HC.out.kept hk4)
 have HO:=hid' (And.intro (HO.out.1.kept hk4) (HO.out.2.kept hk4))
 rw [← HRE.out.1,← HRE.out.2.1,← HRE.out.2.2.1,← HRE.out.2.2.2.1,← HRE.out.2.2.2.2]
 rw [← HRE.out.2.2.1] at o1
 rw [← HRE.out.2.2.2.1] at o2
 have HD:=hid' (And.intro o1 o2)
 clear hk4 hres o1 o2
 have kD:=(Kept.refl w4).alloc (.cells #[.string rs1,.int .u8 rk,.slice d1 rg m1,.slice d2 rv m2] 43)
 have f0:=(HA.out.kept kD).cell 0 (.string s)
 have f1:=(HA.out.kept kD).cell 1 (.int .u8 k)
 have f2:=(HA.out.kept kD).cell 2 (.slice a1 n c)
 have f3:=(HA.out.kept kD).cell 3 (.slice a2 n2 c2)
 go_wp2_with fail
 clear f0 f1 f2 f3
 have hD:=RowL.alloc 43 w4 [.string rs1,.int .u8 rk,.slice d1 rg m1,.slice d2 rv m2]
 have HK:=hid' (HK.out.trans kD)
 have HA:=hid' (HA.out.kept kD)
 have HV:=hid' (HV.out.kept kD)
 have HC:=hid' (HC.out.kept kD)
 have HO:=hid' (And.intro (HO.out.1.kept kD) (And.intro (HO.out.2.kept kD) (And.intro (HD.out.1.kept kD) (HD.out.2.kept kD))))
 generalize w4.alloc (.cells #[.string rs1,.int .u8 rk,.slice d1 rg m1,.slice d2 rv m2] 43) = W4 at HK HA HV HC HO hD ⊢
 obtain ⟨pd,hpd⟩:∃ q,q = w4.heap.size:=⟨_,rfl⟩
 rw [← hpd] at hD ⊢
 have HDr:=hid' hD
 clear hpd kD hD HD
 refine (HW1.out _ HK.out).mono ?_
 rintro e w5 ⟨hk5,hres⟩
 obtain ⟨e1,q1,rfl,u1⟩:=wm_form hres
 obtain ⟨wc,hwc⟩:∃ t,t = wmC md:=⟨_,rfl⟩
 obtain ⟨wl,hwl⟩:∃ t,t = (wmL md).length:=⟨_,rfl⟩
 rw [← hwl] at u1 ⊢
 rw [← hwc]
 have HWE:=hid' (And.intro hwc hwl)
 have HK:=hid' (HK.out.trans hk5)
 have HA:=hid' (HA.out.kept hk5)
 have HV:=hid' (HV.out.kept hk5)
 have HC:=hid' (HC.out.kept hk5)
 have HDr:=hid' (HDr.out.kept hk5)
 have HO:=hid' (And.intro (HO.out.1.kept hk5) (And.intro (HO.out.2.1.kept hk5) (And.intro (HO.out.2.2.1.kept hk5) (HO.out.2.2.2.kept hk5))))
 have HU:=hid' u1
 clear hk5 hres u1 hwc hwl
 have f0:=HA.out.cell 0 (.string s)
 have f1:=HA.out.cell 1 (.int .u8 k)
 have f2:=HA.out.cell 2 (.slice a1 n c)
 have f3:=HA.out.cell 3 (.slice a2 n2 c2)
 go_wp2_with fail
 refine (HW2.out _ HK.out).mono ?_
 rintro e w6 ⟨hk6,hres⟩
 obtain ⟨e2,q2,rfl,u2⟩:=wm_form hres
 rw [← HWE.out.2] at u2 ⊢
 rw [← HWE.out.1]
 have HK:=hid' (HK.out.trans hk6)
 have HV:=hid' (HV.out.kept hk6)
 have HC:=hid' (HC.out.kept hk6)
 have HDr:=hid' (HDr.out.kept hk6)
 have HU:=hid' (And.intro (HU.out.kept hk6) u2)
 have hs5:=same5_any rs1 rk b1 b2 d1 d2 rg l1 rv l2 m1 m2 (rmS r).gs (rmS r).vs w6 (HO.out.1.kept hk6) (HO.out.2.1.kept hk6) (HO.out.2.2.1.kept hk6) (HO.out.2.2.2.kept hk6) (by omega) (by omega)
 clear hk6 hres u2 f0 f1 f2 f3 HA HO
 have f0:=HC.out.cell 0 (.string rs1)
 have f1:=HC.out.cell 1 (.int .u8 rk)
 have f2:=HC.out.cell 2 (.slice b1 rg l1)
 have f3:=HC.out.cell 3 (.slice b2 rv l2)
 have g0:=HDr.out.cell 0 (.string rs1)
 have g1:=HDr.out.cell 1 (.int .u8 rk)
 have g2:=HDr.out.cell 2 (.slice d1 rg m1)
 have g3:=HDr.out.cell 3 (.slice d2 rv m2)
 go_wp2_with fail
 refine hs5.mono ?_
 rintro e w7 ⟨hk7,rfl⟩
 have HK:=hid' (HK.out.trans hk7)
 have HV:=hid' (HV.out.kept hk7)
 have htx:=X.texts_any (.slice e1 wl q1) (.slice e2 wl q2) (wmL md) (wmL md) w7 (HU.out.1.kept hk7) (HU.out.2.kept hk7) (by have:=HWL.out; omega)
 rw [decide_eq_true (rfl:wmL md = wmL md)] at htx
 clear hk7 hs5 f0 f1 f2 f3 g0 g1 g2 g3
 go_wp2_with fail
 refine htx.mono ?_
 rintro e w8 ⟨hk8,rfl⟩
 have HK:=hid' (HK.out.trans hk8)
 have HV:=hid' (HV.out.kept hk8)
 have hwh:=HWH.out _ HK.out _ _ HV.out
 clear hk8 htx
 go_wp2_with fail
 refine hwh.mono ?_
 rintro e w9 ⟨hk9,rfl⟩
 have HK:=hid' (HK.out.trans hk9)
 clear hk9 hwh
 go_wp2_with fail
 go_ret
 exact ⟨HK.out,rfl⟩
end V
end Go.Proofs.YtembglnonhlnkaaGreatDoor

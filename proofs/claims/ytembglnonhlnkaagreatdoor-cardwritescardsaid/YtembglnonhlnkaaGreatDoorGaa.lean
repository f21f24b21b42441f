/- Nothing old has turned: Kept, and its laws. Variables of many cells. Lists of texts in memory; shuntref06.Texts. -/
import Derived.Test.YtembglnonhlnkaaGreatDoorProg
import Derived.WalkKit
import Derived.WalkSpells
import Derived.WalkLawsBesides
import Derived.Deep.OwnRows
import Derived.Deep.QuietTactic
import Derived.BigQuiet
import Derived.Outline
import Derived.KernelRfl
import Derived.OwnWalk
import Derived.Deep.AppendLies
import Derived.Deep.RegionHeld3
import Derived.Laws.IdiomStrings
import Derived.Lib.QuietBelow
namespace Go.Proofs.YtembglnonhlnkaaGreatDoor
open Go.RowKit
def Kept (w w':World):Prop:=Below w.heap.size w w'
theorem Kept.refl (w:World):Kept w w:=Below.refl _ _
theorem Kept.trans {a b c:World} (h:Kept a b) (k:Kept b c):Kept a c:=Below.trans h (Below.mono k h.size)
theorem Kept.drew {a b:World} (h:Kept a b):Kept a b.drew:=Below.drew h
theorem Kept.drewN {a b:World} (h:Kept a b) (n:Nat):Kept a (b.drewN n):=⟨h.os,h.tape,h.output,h.size,h.block⟩
theorem Kept.alloc {a b:World} (h:Kept a b) (o:Obj):Kept a (b.alloc o):=Below.alloc h h.size o
theorem Kept.setCell {a b:World} (h:Kept a b) {p:Addr} (hp:a.heap.size≤p.block) (u:Value):Kept a (b.setCell p u):=Below.setCell h hp u
end Go.Proofs.YtembglnonhlnkaaGreatDoor

namespace Go.Proofs.YtembglnonhlnkaaGreatDoor
open Go.RowKit
namespace V
def RowL (t:TypeId) (w:World) (p:Nat) (xs:List Value):Prop:=w.rowIs p t xs.length (fun i => xs.getD i undef)
theorem RowL.alloc (t:TypeId) (w:World) (xs:List Value):RowL t (w.alloc (.cells xs.toArray t)) w.heap.size xs:=by
 have:=World.rowIs_alloc w xs.toArray t (fun i => xs.getD i undef) (fun i hi => by
  have hi':i < xs.length:=by simpa using hi
  simp [hi'])
 simpa [RowL] using this
section
variable {t:TypeId} {w w':World} {p q:Nat} {xs:List Value}
theorem RowL.lt (h:RowL t w p xs):p < w.heap.size:=World.rowIs.lt h
theorem RowL.cell (h:RowL t w p xs) (i:Nat) (u:Value) (hi:xs[i]? = some u:=by rfl):w.cell? ⟨p,i,none⟩ = some u:=by
 have hl:=(List.getElem?_eq_some_iff.1 hi).1
 have:=World.rowIs.cell h (i:=i) hl
 rw [this]
 show some (xs.getD i undef) = some u
 rw [List.getD_eq_getElem?_getD,hi]
 rfl
theorem RowL.fz (h:RowL t w p xs) (i:Nat):w.frozen? ⟨p,i,none⟩ = false:=World.rowIs.frozen h i
theorem RowL.kept (h:RowL t w p xs) (k:Kept w w'):RowL t w' p xs:=World.rowIs.of_block h (k.block p h.lt)
theorem RowL.block (h:RowL t w p xs) (k:w'.heap[p]? = w.heap[p]?):RowL t w' p xs:=World.rowIs.of_block h k
theorem RowL.set (h:RowL t w p xs) (i:Nat) (v:Value):RowL t (w.setCell ⟨p,i,none⟩ v) p (xs.set i v):=by
 have:=World.rowIs.set h i v
 unfold RowL
 rw [List.length_set]
 refine this.congr (fun j hj => ?_)
 show (if j = i then v else xs.getD j undef) = (xs.set i v).getD j undef
 by_cases e:j = i
 ·
  subst e
  rw [if_pos rfl,List.getD_eq_getElem?_getD,List.getElem?_set_self hj]
  rfl
 ·
  rw [if_neg e,List.getD_eq_getElem?_getD,List.getD_eq_getElem?_getD,List.getElem?_set_ne (fun h => e h.symm)]
theorem RowL.far (h:RowL t w p xs) (hne:p ≠ q) (i:Nat) (v:Value):RowL t (w.setCell ⟨q,i,none⟩ v) p xs:=World.rowIs.setOther h hne v
end
end V
end Go.Proofs.YtembglnonhlnkaaGreatDoor

namespace Go.Proofs.YtembglnonhlnkaaGreatDoor
open Go.RowKit
namespace X
theorem hid' {p:Prop} (h:p):Hid p:=h
def bs (l:List UInt8):ByteArray:=⟨l.toArray⟩
theorem bs_list (l:List UInt8):(bs l).data.toList = l:=rfl
theorem bs_size (l:List UInt8):(bs l).size = l.length:=by unfold bs; simp [ByteArray.size]
theorem len_list (s:ByteArray):s.data.toList.length = s.size:=by rw [Array.length_toList]; rfl
theorem list_at (s:ByteArray) (k:Nat) (h:k < s.size):s.data.toList[k]? = some s[k]:=by
 rw [List.getElem?_eq_getElem (by rw [Array.length_toList]; exact h)]; rfl
theorem info_str:(Tryz.prog.info? 9).map (fun i => (i.zero,i.size,i.bytes)) = some (some (.string ByteArray.empty),1,16):=by kernel_rfl
theorem und_strs:Tryz.prog.underlying 22 = some (.slice 9):=by kernel_rfl
def strs (ws:List (List UInt8)):List Value:=ws.map fun l => .string (bs l)
theorem strs_len (ws:List (List UInt8)):(strs ws).length = ws.length * 1:=by simp [strs]
theorem strs_one (ws:List (List UInt8)):∀ u ∈ strs ws,u.oneCell' = true:=by
 intro u hu
 obtain ⟨p,_,rfl⟩:=List.mem_map.1 hu
 rfl
theorem strs_app (a b:List (List UInt8)):strs (a ++ b) = strs a ++ strs b:=List.map_append
theorem strs_at (ws:List (List UInt8)) (j:Nat) (h:j < ws.length):(strs ws)[j]? = some (.string (bs (ws.getD j []))):=by
 simp [strs,h]
def OwnS (B:Nat) (w:World) (v:Value) (ws:List (List UInt8)):Prop:=w.ownsRow B 9 1 v ws.length (strs ws)
theorem OwnS.nil (B:Nat) (w:World):OwnS B w (.slice none 0 0) []:=World.ownsRow_nil _ _ _ _
theorem OwnS.kept {B:Nat} {w w':World} {v:Value} {ws:List (List UInt8)} (h:OwnS B w v ws) (k:Kept w w'):OwnS B w' v ws:=by
 obtain ⟨h1,h2 | ⟨g,cap,cur,h2,h3,h4,h5⟩⟩:=h
 ·
  exact ⟨h1,.inl h2⟩
 ·
  exact ⟨h1,.inr ⟨g,cap,cur,h2,h3,(k.block g (by
   rcases Nat.lt_or_ge g w.heap.size with hlt | hge
   ·
    exact hlt
   ·
    rw [Array.getElem?_eq_none hge] at h4; cases h4)).trans h4,h5⟩⟩
theorem cell_new (w:World) (x:Value) (t:TypeId):∀ j u,([x]:List Value)[j]? = some u→(w.alloc (.cells #[x] t)).cell? ((⟨w.heap.size,0,none⟩:Addr).add j) = some u:=by
 intro j u hj
 match j,hj with
 | 0,hj => simp at hj; subst hj; simp [Addr.add]
theorem OwnS.shape {B:Nat} {w:World} {v:Value} {ws:List (List UInt8)} (h:OwnS B w v ws):∃ ao cap,v = .slice ao ws.length cap:=by
 obtain ⟨_,⟨h2,h3⟩ | ⟨g,cap,cur,h2,_⟩⟩:=h
 ·
  exact ⟨none,0,by rw [h2,h3]⟩
 ·
  exact ⟨_,_,h2⟩
theorem OwnS.read {B:Nat} {w:World} {v:Value} {ws:List (List UInt8)} (h:OwnS B w v ws) (h0:0 < ws.length):∃ g cap,v = .slice (some ⟨g,0,none⟩) ws.length cap∧B≤g∧g < w.heap.size∧ws.length≤cap∧(∀ j,j < ws.length→w.cell? ⟨g,j,none⟩ = some (.string (bs (ws.getD j []))))∧∀ j,w.frozen? ⟨g,j,none⟩ = false:=by
 obtain ⟨_,⟨_,h3⟩ | ⟨g,cap,cur,h2,hB,hg,hn,_,hs,ht⟩⟩:=h
 ·
  omega
 ·
  have hlt:g < w.heap.size:=by
   rcases Nat.lt_or_ge g w.heap.size with hlt | hge
   ·
    exact hlt
   ·
    rw [Array.getElem?_eq_none hge] at hg; cases hg
  refine ⟨g,cap,h2,hB,hlt,hn,fun j hj => ?_,fun j => by simp [World.frozen?,hg]⟩
  have:=strs_at ws j hj
  rw [← ht,List.getElem?_take_of_lt (by omega),Array.getElem?_toList] at this
  simp [World.cell?,hg,this]
theorem OwnS.mono {B B':Nat} {w:World} {v:Value} {ws:List (List UInt8)} (h:OwnS B w v ws) (hB:B'≤B):OwnS B' w v ws:=by
 obtain ⟨h1,h2 | ⟨g,cap,cur,h2,h3,h4⟩⟩:=h
 ·
  exact ⟨h1,.inl h2⟩
 ·
  exact ⟨h1,.inr ⟨g,cap,cur,h2,by omega,h4⟩⟩
def RS (w:World) (v:Value) (ws:List (List UInt8)):Prop :=
 ∃ ao c,v = .slice ao ws.length c∧(0 < ws.length→∃ b off,ao = some ⟨b,off,none⟩∧b < w.heap.size∧∀ j,j < ws.length→w.cell? ⟨b,off + j,none⟩ = some (.string (bs (ws.getD j []))))
theorem RS.kept {w w':World} {v:Value} {ws:List (List UInt8)} (h:RS w v ws) (k:Kept w w'):RS w' v ws:=by
 obtain ⟨ao,c,rfl,h⟩:=h
 refine ⟨ao,c,rfl,fun h0 => ?_⟩
 obtain ⟨b,off,rfl,hb,hc⟩:=h h0
 exact ⟨b,off,rfl,Nat.lt_of_lt_of_le hb k.size,fun j hj => (Below.cell k (p:=⟨b,off + j,none⟩) hb).trans (hc j hj)⟩
theorem OwnS.rs {B:Nat} {w:World} {v:Value} {ws:List (List UInt8)} (h:OwnS B w v ws):RS w v ws:=by
 by_cases h0:0 < ws.length
 ·
  obtain ⟨g,cap,rfl,_,hg,_,hc,_⟩:=h.read h0
  exact ⟨_,_,rfl,fun _ => ⟨g,0,rfl,hg,fun j hj => by rw [Nat.zero_add]; exact hc j hj⟩⟩
 ·
  obtain ⟨ao,cap,rfl⟩:=h.shape
  exact ⟨_,_,rfl,fun h => absurd h h0⟩
theorem eq_of_getD {α:Type} {a b:List α} (d:α) (hl:a.length = b.length) (h:∀ j,j < a.length→a.getD j d = b.getD j d):a = b:=by
 apply List.ext_getElem hl
 intro i h1 h2
 have:=h i h1
 rwa [List.getD_eq_getElem?_getD,List.getD_eq_getElem?_getD,List.getElem?_eq_getElem h1,List.getElem?_eq_getElem h2] at this
set_option maxRecDepth 100000 in
set_option maxHeartbeats 4000000 in
theorem texts_any (u1 u2:Value) (a b:List (List UInt8)) (w:World) (h1:RS w u1 a) (h2:RS w u2 b) (hl:a.length≤1000000000000000000) :
  Calls Tryz.prog 21 #[u1,u2] w fun e w' => Kept w w'∧e = .returned (.bool (decide (a = b))):=by
 obtain ⟨ao,c,rfl,h1⟩:=h1
 obtain ⟨ao',c',rfl,h2⟩:=h2
 obtain ⟨n,hn⟩:∃ n,n = a.length:=⟨_,rfl⟩
 rw [← hn] at h1 hl ⊢
 by_cases hne:n = b.length
 ·
  rw [← hne] at h2 ⊢
  have HN:=hid' (And.intro hn hne)
  have H1:=hid' h1
  have H2:=hid' h2
  clear hn hne h1 h2
  go_enter Tryz.func21,Tryz.ntmps21
  go_wp2_with fail
  go_loopw [5] (fun vi wr => ∃ k:Nat,k≤n∧vi = .int .i64 (k:Int)∧Hid (Kept w wr∧∀ j,j < k→a.getD j [] = b.getD j [])) (fun vi _ => n - (intOf vi).toNat)
  case atStart => exact ⟨0,Nat.zero_le _,rfl,Kept.refl _,fun j hj => absurd hj (Nat.not_lt_zero _)⟩
  case round =>
   obtain ⟨k,hk,rfl,H⟩:=hrel
   by_cases hlt:k < n
   ·
    have hi:(k:Int) < (n:Int):=by omega
    have hn0:0 < n:=by omega
    obtain ⟨b1,o1,rfl,hb1,hc1⟩:=H1.out hn0
    obtain ⟨b2,o2,rfl,hb2,hc2⟩:=H2.out hn0
    have q1:=(Below.cell H.out.1 (p:=⟨b1,o1 + k,none⟩) hb1).trans (hc1 k hlt)
    have q2:=(Below.cell H.out.1 (p:=⟨b2,o2 + k,none⟩) hb2).trans (hc2 k hlt)
    obtain ⟨x,hx⟩:∃ x,x = a.getD k []:=⟨_,rfl⟩
    obtain ⟨y,hy⟩:∃ y,y = b.getD k []:=⟨_,rfl⟩
    rw [← hx] at q1
    rw [← hy] at q2
    have HX:=hid' (And.intro hx hy)
    have e1:(bs x).toList = x:=by rw [ByteArray.toList_eq,bs_list]
    have e2:(bs y).toList = y:=by rw [ByteArray.toList_eq,bs_list]
    clear hx hy hb1 hb2 hc1 hc2
    generalize bs x = t1 at q1 e1
    generalize bs y = t2 at q2 e2
    by_cases hxy:x = y
    ·
     subst hxy
     have hq:t1.toList = t2.toList:=by rw [e1,e2]
     have hq':(t1.toList == t2.toList) = true:=by rw [hq]; simp
     clear e1 e2 hq
     go_wp2_with fail
     go_quiet (fail)
     go_wp2_with fail
     go_roundw
     case rel =>
      refine ⟨k + 1,by omega,by go_num,H.out.1.drewN _,fun j hj => ?_⟩
      by_cases e:j = k
      ·
       subst e; rw [← HX.out.1,← HX.out.2]
      ·
       exact H.out.2 j (by omega)
     case measure => show n - ((k:Int) + 1).toNat < n - (k:Int).toNat; omega
    ·
     have hq:¬ t1.toList = t2.toList:=by rw [e1,e2]; exact hxy
     have hq':(t1.toList == t2.toList) = false:=by simpa using hq
     have HD:=hid' (show decide (a = b) = false from decide_eq_false (fun e => hxy (by rw [HX.out.1,HX.out.2,e])))
     clear e1 e2 hq hxy
     go_wp2_with fail
     go_quiet (fail)
     go_wp2_with fail
     go_ret
     exact ⟨H.out.1.drewN _,by rw [HD.out]; rfl⟩
   ·
    have hi:¬ (k:Int) < (n:Int):=by omega
    have HD:=hid' (show decide (a = b) = true from decide_eq_true (eq_of_getD [] (by rw [← HN.out.1,← HN.out.2]) (fun j hj => H.out.2 j (by rw [← HN.out.1] at hj; omega))))
    go_wp2_with fail
    go_ret
    exact ⟨H.out.1,by rw [HD.out]; rfl⟩
 ·
  have hz:¬ (n:Int) = (b.length:Int):=by omega
  have hz':((n:Int) == (b.length:Int)) = false:=by simpa using hz
  have HD:=hid' (show decide (a = b) = false from decide_eq_false (fun e => hne (by rw [hn,e])))
  clear hn h1 h2
  generalize b.length = m at *
  go_enter Tryz.func21,Tryz.ntmps21
  go_wp2_with fail
  go_ret
  exact ⟨Kept.refl _,by rw [HD.out]; rfl⟩
end X
end Go.Proofs.YtembglnonhlnkaaGreatDoor

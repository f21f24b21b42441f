/- Lemmas. -/
import Derived.Test.YtihnknnddldgiaaGreatDoorGaa
import Derived.OwnWalk
import Derived.Deep.AppendLies
import Derived.Deep.RegionHeld3
import Derived.Laws.IdiomStrings
import Derived.Lib.QuietBelow
import Derived.Test.YtihnknnddldgiaaGreatDoorGar
import Derived.SliceStrings
import Derived.Test.YtihnknnddldgiaaGreatDoorRows
namespace Go.Proofs.YtihnknnddldgiaaGreatDoor
open Go.RowKit
namespace X
theorem hid' {p:Prop} (h:p):Hid p:=h
def bs (l:List UInt8):ByteArray:=⟨l.toArray⟩
theorem bs_list (l:List UInt8):(bs l).data.toList = l:=rfl
theorem bs_size (l:List UInt8):(bs l).size = l.length:=by unfold bs; simp [ByteArray.size]
theorem list_at (s:ByteArray) (k:Nat) (h:k < s.size):s.data.toList[k]? = some s[k]:=by
 rw [List.getElem?_eq_getElem (by rw [Array.length_toList]; exact h)]; rfl
theorem info_str:(Tryz.prog.info? 9).map (fun i => (i.zero,i.size,i.bytes)) = some (some (.string ByteArray.empty),1,16):=by kernel_rfl
theorem und_strs:Tryz.prog.underlying 22 = some (.slice 9):=by kernel_rfl
def strs (ws:List (List UInt8)):List Value:=ws.map fun l => .string (bs l)
theorem strs_len (ws:List (List UInt8)):(strs ws).length = ws.length * 1:=by simp [strs]
theorem strs_one (ws:List (List UInt8)):∀ u ∈ strs ws,u.oneCell' = true:=by
 intro u hu
 obtain ⟨p,_,rfl⟩:=List.mem_map.1 hu
 rfl
theorem strs_app (a b:List (List UInt8)):strs (a ++ b) = strs a ++ strs b:=List.map_append
theorem strs_at (ws:List (List UInt8)) (j:Nat) (h:j < ws.length):(strs ws)[j]? = some (.string (bs (ws.getD j []))):=by
 simp [strs,h]
def OwnS (B:Nat) (w:World) (v:Value) (ws:List (List UInt8)):Prop:=w.ownsRow B 9 1 v ws.length (strs ws)
theorem OwnS.nil (B:Nat) (w:World):OwnS B w (.slice none 0 0) []:=World.ownsRow_nil _ _ _ _
theorem OwnS.kept {B:Nat} {w w':World} {v:Value} {ws:List (List UInt8)} (h:OwnS B w v ws) (k:Kept w w'):OwnS B w' v ws:=by
 obtain ⟨h1,h2 | ⟨g,cap,cur,h2,h3,h4,h5⟩⟩:=h
 ·
  exact ⟨h1,.inl h2⟩
 ·
  exact ⟨h1,.inr ⟨g,cap,cur,h2,h3,(k.block g (by
   rcases Nat.lt_or_ge g w.heap.size with hlt | hge
   ·
    exact hlt
   ·
    rw [Array.getElem?_eq_none hge] at h4; cases h4)).trans h4,h5⟩⟩
theorem cell_new (w:World) (x:Value) (t:TypeId):∀ j u,([x]:List Value)[j]? = some u->(w.alloc (.cells #[x] t)).cell? ((⟨w.heap.size,0,none⟩:Addr).add j) = some u:=by
 intro j u hj
 match j,hj with
 | 0,hj => simp at hj; subst hj; simp [Addr.add]
theorem OwnS.shape {B:Nat} {w:World} {v:Value} {ws:List (List UInt8)} (h:OwnS B w v ws):∃ ao cap,v = .slice ao ws.length cap:=by
 obtain ⟨_,⟨h2,h3⟩ | ⟨g,cap,cur,h2,_⟩⟩:=h
 ·
  exact ⟨none,0,by rw [h2,h3]⟩
 ·
  exact ⟨_,_,h2⟩
theorem OwnS.read {B:Nat} {w:World} {v:Value} {ws:List (List UInt8)} (h:OwnS B w v ws) (h0:0 < ws.length):∃ g cap,v = .slice (some ⟨g,0,none⟩) ws.length cap/\B<=g/\g < w.heap.size/\ws.length<=cap/\(∀ j,j < ws.length->w.cell? ⟨g,j,none⟩ = some (.string (bs (ws.getD j []))))/\∀ j,w.frozen? ⟨g,j,none⟩ = false:=by
 obtain ⟨_,⟨_,h3⟩ | ⟨g,cap,cur,h2,hB,hg,hn,_,hs,ht⟩⟩:=h
 ·
  omega
 ·
  have hlt:g < w.heap.size:=by
   rcases Nat.lt_or_ge g w.heap.size with hlt | hge
   ·
    exact hlt
   ·
    rw [Array.getElem?_eq_none hge] at hg; cases hg
  refine ⟨g,cap,h2,hB,hlt,hn,fun j hj => ?_,fun j => by simp [World.frozen?,hg]⟩
  have:=strs_at ws j hj
  rw [<- ht,List.getElem?_take_of_lt (by omega),Array.getElem?_toList] at this
  simp [World.cell?,hg,this]
theorem OwnS.mono {B B':Nat} {w:World} {v:Value} {ws:List (List UInt8)} (h:OwnS B w v ws) (hB:B'<=B):OwnS B' w v ws:=by
 obtain ⟨h1,h2 | ⟨g,cap,cur,h2,h3,h4⟩⟩:=h
 ·
  exact ⟨h1,.inl h2⟩
 ·
  exact ⟨h1,.inr ⟨g,cap,cur,h2,by omega,h4⟩⟩
def RS (w:World) (v:Value) (ws:List (List UInt8)):Prop :=
 ∃ ao c,v = .slice ao ws.length c/\(0 < ws.length->∃ b off,ao = some ⟨b,off,none⟩/\b < w.heap.size/\∀ j,j < ws.length->w.cell? ⟨b,off + j,none⟩ = some (.string (bs (ws.getD j []))))
theorem RS.kept {w w':World} {v:Value} {ws:List (List UInt8)} (h:RS w v ws) (k:Kept w w'):RS w' v ws:=by
 obtain ⟨ao,c,rfl,h⟩:=h
 refine ⟨ao,c,rfl,fun h0 => ?_⟩
 obtain ⟨b,off,rfl,hb,hc⟩:=h h0
 exact ⟨b,off,rfl,Nat.lt_of_lt_of_le hb k.size,fun j hj => (Below.cell k (p:=⟨b,off + j,none⟩) hb).trans (hc j hj)⟩
theorem OwnS.rs {B:Nat} {w:World} {v:Value} {ws:List (List UInt8)} (h:OwnS B w v ws):RS w v ws:=by
 by_cases h0:0 < ws.length
 ·
  obtain ⟨g,cap,rfl,_,hg,_,hc,_⟩:=h.read h0
  exact ⟨_,_,rfl,fun _ => ⟨g,0,rfl,hg,fun j hj => by rw [Nat.zero_add]; exact hc j hj⟩⟩
 ·
  obtain ⟨ao,cap,rfl⟩:=h.shape
  exact ⟨_,_,rfl,fun h => absurd h h0⟩
theorem eq_of_getD {α:Type} {a b:List α} (d:α) (hl:a.length = b.length) (h:∀ j,j < a.length->a.getD j d = b.getD j d):a = b:=by
 apply List.ext_getElem hl
 intro i h1 h2
 have:=h i h1
 rwa [List.getD_eq_getElem?_getD,List.getD_eq_getElem?_getD,List.getElem?_eq_getElem h1,List.getElem?_eq_getElem h2] at this
set_option maxRecDepth 100000 in
set_option maxHeartbeats 4000000 in
theorem texts_any (u1 u2:Value) (a b:List (List UInt8)) (w:World) (h1:RS w u1 a) (h2:RS w u2 b) (hl:a.length<=1000000000000000000) :
  Calls Tryz.prog 13 #[u1,u2] w fun e w' => Kept w w'/\e = .returned (.bool (decide (a = b))):=by
 obtain ⟨ao,c,rfl,h1⟩:=h1
 obtain ⟨ao',c',rfl,h2⟩:=h2
 obtain ⟨n,hn⟩:∃ n,n = a.length:=⟨_,rfl⟩
 rw [<- hn] at h1 hl ⊢
 by_cases hne:n = b.length
 ·
  rw [<- hne] at h2 ⊢
  have HN:=hid' (And.intro hn hne)
  have H1:=hid' h1
  have H2:=hid' h2
  clear hn hne h1 h2
  go_enter Tryz.func13,Tryz.ntmps13
  go_wp2_with fail
  go_loopw [5] (fun vi wr => ∃ k:Nat,k<=n/\vi = .int .i64 (k:Int)/\Hid (Kept w wr/\∀ j,j < k->a.getD j [] = b.getD j [])) (fun vi _ => n - (intOf vi).toNat)
  case atStart => exact ⟨0,Nat.zero_le _,rfl,Kept.refl _,fun j hj => absurd hj (Nat.not_lt_zero _)⟩
  case round =>
   obtain ⟨k,hk,rfl,H⟩:=hrel
   by_cases hlt:k < n
   ·
    have hi:(k:Int) < (n:Int):=by omega
    have hn0:0 < n:=by omega
    obtain ⟨b1,o1,rfl,hb1,hc1⟩:=H1.out hn0
    obtain ⟨b2,o2,rfl,hb2,hc2⟩:=H2.out hn0
    have q1:=(Below.cell H.out.1 (p:=⟨b1,o1 + k,none⟩) hb1).trans (hc1 k hlt)
    have q2:=(Below.cell H.out.1 (p:=⟨b2,o2 + k,none⟩) hb2).trans (hc2 k hlt)
    obtain ⟨x,hx⟩:∃ x,x = a.getD k []:=⟨_,rfl⟩
    obtain ⟨y,hy⟩:∃ y,y = b.getD k []:=⟨_,rfl⟩
    rw [<- hx] at q1
    rw [<- hy] at q2
    have HX:=hid' (And.intro hx hy)
    have e1:(bs x).toList = x:=by rw [ByteArray.toList_eq,bs_list]
    have e2:(bs y).toList = y:=by rw [ByteArray.toList_eq,bs_list]
    clear hx hy hb1 hb2 hc1 hc2
    generalize bs x = t1 at q1 e1
    generalize bs y = t2 at q2 e2
    by_cases hxy:x = y
    ·
     subst hxy
     have hq:t1.toList = t2.toList:=by rw [e1,e2]
     have hq':(t1.toList == t2.toList) = true:=by rw [hq]; simp
     clear e1 e2 hq
     go_wp2_with fail
     go_quiet (fail)
     go_wp2_with fail
     go_roundw
     case rel =>
      refine ⟨k + 1,by omega,by go_num,H.out.1.drewN _,fun j hj => ?_⟩
      by_cases e:j = k
      ·
       subst e; rw [<- HX.out.1,<- HX.out.2]
      ·
       exact H.out.2 j (by omega)
     case measure => show n - ((k:Int) + 1).toNat < n - (k:Int).toNat; omega
    ·
     have hq:¬ t1.toList = t2.toList:=by rw [e1,e2]; exact hxy
     have hq':(t1.toList == t2.toList) = false:=by simpa using hq
     have HD:=hid' (show decide (a = b) = false from decide_eq_false (fun e => hxy (by rw [HX.out.1,HX.out.2,e])))
     clear e1 e2 hq hxy
     go_wp2_with fail
     go_quiet (fail)
     go_wp2_with fail
     go_ret
     exact ⟨H.out.1.drewN _,by rw [HD.out]; rfl⟩
   ·
    have hi:¬ (k:Int) < (n:Int):=by omega
    have HD:=hid' (show decide (a = b) = true from decide_eq_true (eq_of_getD [] (by rw [<- HN.out.1,<- HN.out.2]) (fun j hj => H.out.2 j (by rw [<- HN.out.1] at hj; omega))))
    go_wp2_with fail
    go_ret
    exact ⟨H.out.1,by rw [HD.out]; rfl⟩
 ·
  have hz:¬ (n:Int) = (b.length:Int):=by omega
  have hz':((n:Int) == (b.length:Int)) = false:=by simpa using hz
  have HD:=hid' (show decide (a = b) = false from decide_eq_false (fun e => hne (by rw [hn,e])))
  clear hn h1 h2
  generalize b.length = m at *
  go_enter Tryz.func13,Tryz.ntmps13
  go_wp2_with fail
  go_ret
  exact ⟨Kept.refl _,by rw [HD.out]; rfl⟩
end X
end Go.Proofs.YtihnknnddldgiaaGreatDoor
namespace Go.Proofs.YtihnknnddldgiaaGreatDoor
open Go.ChangeShapes Go.WideShapes Go.ChangeAt Go.RowKit Go.Joins Go.Deep
namespace V
open X (bs RS)
theorem cells_strs1:Tryz.prog.cellsOf 9 = 1:=by kernel_rfl
end V
end Go.Proofs.YtihnknnddldgiaaGreatDoor
namespace Go.Proofs.YtihnknnddldgiaaGreatDoor
open Go.ChangeShapes Go.WideShapes Go.ChangeAt Go.RowKit Go.Joins Go.Deep
namespace V
open X (RS)
theorem bulk_mem {H:Type} {d:DataW H} {l:List (DataW H)} (h:d ∈ l):Rows.uptoBulk d<=Rows.uptoBulkAll l:=by
 induction l with
 | nil => cases h
 | cons x r ih =>
  rw [Rows.uptoBulkAll]
  rcases List.mem_cons.1 h with e | e
  ·
   subst e; omega
  ·
   have:=ih e; omega
theorem bulk_len {H:Type}:∀ ss:List ByteArray,(ss.length:Nat)<=Rows.uptoBulkAll (Go.ChangeShapes.strs ss:List (DataW H))
 | [] => Nat.zero_le _
 | s :: t => by
  have:=bulk_len (H:=H) t
  show t.length + 1<=Rows.uptoBulk (DataW.lit (H:=H) (.string s.data.toList)) + Rows.uptoBulkAll (Go.ChangeShapes.strs t)
  rw [Rows.uptoBulk]
  omega
set_option maxRecDepth 100000 in
theorem open_Words3 {H:Type} {enc:TypeId × Value->H} {W:World} {r:Reach} {b0:Nat} {v:Value} {d:DataW H} {p:List MemPlace} (hv:Value.okWide Tryz.prog W r b0 22 v)
  (h:DataW.Trod enc Tryz.prog W 0 (fun _ => true) true 22 v d p) (hb:Rows.uptoBulk d<=1048576):∃ (ao:Option Addr) (n c:Nat) (ws:List (List UInt8)),v = .slice ao n c/\RS W (.slice ao n c) ws/\n<=1048576/\∀ x ∈ ws,x.length<=1048576:=by
 obtain ⟨ao,n,c,rfl⟩:=okWide_slice Tryz.underlying22 hv
 obtain ⟨fuel,hf⟩:=h
 rcases open_strings Tryz.underlying22 Tryz.underlying9 cells_strs1 (show DataW.trod enc Tryz.prog W 0 (fun _ => true) true fuel 22 [.slice ao n c] = some (d,p) from hf) with ⟨hcs,_⟩ | ⟨a,len,cap,ss,hcs,_,hl,hm,hz,hx,hcell,_⟩
 ·
  simp only [List.cons.injEq,Value.slice.injEq,and_true] at hcs
  obtain ⟨rfl,rfl,rfl⟩:=hcs
  exact ⟨none,0,0,[],rfl,⟨none,0,rfl,fun h => absurd h (by decide)⟩,by omega,by simp⟩
 ·
  simp only [List.cons.injEq,Value.slice.injEq,and_true] at hcs
  obtain ⟨rfl,rfl,rfl⟩:=hcs
  rw [if_pos rfl] at hz
  simp only [Prod.mk.injEq] at hx
  obtain ⟨rfl,_⟩:=hx
  rw [Rows.uptoBulk] at hb
  have hln:((ss.take n).map (fun s => s.data.toList)).length = n:=by rw [List.length_map,List.length_take]; omega
  have hbl:=bulk_len (H:=H) (ss.take n)
  rw [List.length_take] at hbl
  refine ⟨some a,n,c,(ss.take n).map (fun s => s.data.toList),rfl,⟨some a,c,by rw [hln],fun h0 => ?_⟩,by omega,?_⟩
  ·
   rw [hln] at h0 ⊢
   have hc0:=hcell 0 (by omega)
   have hspot:a.spot = none:=by
    simp [Addr.add] at hc0
    exact World.cell?_spot hc0
   obtain ⟨b,off,spot⟩:=a
   simp at hspot
   subst hspot
   refine ⟨b,off,rfl,World.block_lt_of_cell? W _ (hcell 0 (by omega)),fun j hj => ?_⟩
   have hcj:=hcell j (by omega)
   have ha:(⟨b,off,none⟩:Addr).add j = ⟨b,off + j,none⟩:=by
    unfold Addr.add
    by_cases hj0:j = 0 <;> simp [hj0]
   rw [ha] at hcj
   have e1:ss.getD j ByteArray.empty = ss[j]'(by omega):=by rw [List.getD_eq_getElem?_getD,List.getElem?_eq_getElem (by omega)]; rfl
   have e2:((ss.take n).map (fun s => s.data.toList)).getD j [] = (ss[j]'(by omega)).data.toList:=by
    rw [List.getD_eq_getElem?_getD,List.getElem?_map,List.getElem?_take_of_lt hj,List.getElem?_eq_getElem (by omega)]
    rfl
   rw [hcj,e1,e2]
   rfl
  ·
   intro x hx
   obtain ⟨s,hs,rfl⟩:=List.mem_map.1 hx
   have h1:=bulk_mem (d:=(DataW.lit (H:=H) (.string s.data.toList))) (l:=Go.ChangeShapes.strs (ss.take n)) (List.mem_map.2 ⟨s,hs,rfl⟩)
   rw [Rows.uptoBulk] at h1
   omega
end V
end Go.Proofs.YtihnknnddldgiaaGreatDoor

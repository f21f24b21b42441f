/- Lemmas. -/
import Derived.Test.YtembglnonhlnkaaGreatDoorGao
import Derived.Test.YtembglnonhlnkaaGreatDoorGai
import Derived.Test.YtembglnonhlnkaaGreatDoorGan
import Derived.Test.YtembglnonhlnkaaGreatDoorGac
import Derived.Deep.Slices
import Derived.Deep.Strs
import Derived.SizedLaws
import Derived.Test.YtembglnonhlnkaaGreatDoorGaa
import Derived.SliceStrings
namespace Go.Proofs.YtembglnonhlnkaaGreatDoor
open Go.RowKit
namespace F
def ToldX (B:Nat) (w:World) (s:Bool) (ao:Option Addr) (k c:Nat) (t:Bool) (ap:Option Addr) (k' c':Nat) (ec N Q:Int):Prop :=
 (ec = 0/\∃ l l',New B w (.slice ao k c) l/\M.Right s l/\M.int s l = N/\New B w (.slice ap k' c') l'/\M.Right t l'/\M.int t l' = Q) ∨ (ec = 13/\s = false/\t = false/\(ao,k,c) = (none,0,0)/\(ap,k',c') = (none,0,0)/\(M.W72<=N.natAbs ∨ M.W72<=Q.natAbs))
theorem ToldIs.split {B:Nat} {w:World} {e:Ending} {N Q:Int} (h:ToldIs B w e N Q):∃ s ao k c t ap k' c' ec,e = .returned (.tuple #[.agg #[.bool s,.slice ao k c,.bool t,.slice ap k' c'],.int .i64 ec])/\ToldX B w s ao k c t ap k' c' ec N Q:=by
 rcases h with ⟨s,ao,k,c,l,t,ap,k',c',l',rfl,h1,h2,h3,h4,h5,h6⟩ | ⟨rfl,h⟩
 ·
  exact ⟨s,ao,k,c,t,ap,k',c',0,rfl,.inl ⟨rfl,l,l',h1,h2,h3,h4,h5,h6⟩⟩
 ·
  exact ⟨false,none,0,0,false,none,0,0,13,rfl,.inr ⟨rfl,rfl,rfl,rfl,rfl,h⟩⟩
theorem ToldX.mono {B B':Nat} {w:World} {s t:Bool} {ao ap:Option Addr} {k c k' c':Nat} {ec N Q:Int} (h:ToldX B w s ao k c t ap k' c' ec N Q) (hB:B'<=B):ToldX B' w s ao k c t ap k' c' ec N Q:=by
 rcases h with ⟨e,l,l',h1,h2,h3,h4,h5⟩ | h
 ·
  exact .inl ⟨e,l,l',h1.mono hB,h2,h3,h4.mono hB,h5⟩
 ·
  exact .inr h
theorem ToldX.put4 {B p:Nat} {w:World} {s t:Bool} {ao ap:Option Addr} {k c k' c':Nat} {ec N Q:Int} {y0 y1 y2 y3:Value} (h:ToldX B w s ao k c t ap k' c' ec N Q) (hz:RRow w p y0 y1 y2 y3) (x0 x1 x2 x3:Value):ToldIs B (F.put4 w p x0 x1 x2 x3) (.returned (.tuple #[.agg #[.bool s,.slice ao k c,.bool t,.slice ap k' c'],.int .i64 ec])) N Q:=by
 rcases h with ⟨rfl,l,l',h1,h2,h3,h4,h5,h6⟩ | ⟨rfl,rfl,rfl,h1,h2,h3⟩
 ·
  exact .inl ⟨s,ao,k,c,l,t,ap,k',c',l',rfl,New.rset4 h1 hz _ _ _ _,h2,h3,New.rset4 h4 hz _ _ _ _,h5,h6⟩
 ·
  simp only [Prod.mk.injEq] at h1 h2
  obtain ⟨rfl,rfl,rfl⟩:=h1
  obtain ⟨rfl,rfl,rfl⟩:=h2
  exact .inr ⟨rfl,h3⟩
def GivenIs (B:Nat) (w:World) (e:Ending) (N D:Int) (k k':Nat):Prop :=
 ∃ s ao n c l t ap n' c' l',e = .returned (.agg #[.bool s,.slice ao n c,.bool t,.slice ap n' c'])/\New B w (.slice ao n c) l/\M.Tr l/\M.int s l = N/\l.length = (k + 1) / 2/\(l = []->s = false)/\New B w (.slice ap n' c') l'/\M.Tr l'/\M.int t l' = D/\l'.length = (k' + 1) / 2/\(l' = []->t = false)
set_option maxRecDepth 100000 in
set_option maxHeartbeats 4000000 in
theorem FHeld_any (s t s' t':Bool) (a1 a2 b1 b2:Option Addr) (k1 c1 k2 c2 k3 c3 k4 c4:Nat) (X Y X' Y':Int) (w:World) (h1:D.NIs w s (.slice a1 k1 c1) X) (h2:D.NIs w t (.slice a2 k2 c2) Y) (h3:D.NIs w s' (.slice b1 k3 c3) X') (h4:D.NIs w t' (.slice b2 k4 c4) Y') (hk:k1<=300/\k2<=300/\k3<=300/\k4<=300) :
  Calls Tryz.prog 52 #[.agg #[.bool s,.slice a1 k1 c1,.bool t,.slice a2 k2 c2],.agg #[.bool s',.slice b1 k3 c3,.bool t',.slice b2 k4 c4]] w fun e w' => Kept w w'/\e = .returned (.int .i64 (isgn (X * Y') (X' * Y))):=by
 have HA:Hid (D.NIs w s (.slice a1 k1 c1) X/\D.NIs w t (.slice a2 k2 c2) Y/\D.NIs w s' (.slice b1 k3 c3) X'/\D.NIs w t' (.slice b2 k4 c4) Y'/\True):=⟨h1,h2,h3,h4,trivial⟩
 have HL:Hid ((k1<=300/\k2<=300/\k3<=300/\k4<=300)/\True):=⟨hk,trivial⟩
 clear h1 h2 h3 h4 hk
 go_enter Tryz.func52,Tryz.ntmps52
 go_upto_region 1 with fail
 have r2:=((FRow.alloc w (.bool s) (.slice a1 k1 c1) (.bool t) (.slice a2 k2 c2)).kept (((Kept.refl _).alloc (.cells #[.bool s',.slice b1 k3 c3,.bool t',.slice b2 k4 c4] 89))))
 have r3:=((FRow.alloc (w.alloc (.cells #[.bool s,.slice a1 k1 c1,.bool t,.slice a2 k2 c2] 89)) (.bool s') (.slice b1 k3 c3) (.bool t') (.slice b2 k4 c4)).kept ((Kept.refl _)))
 have r4:=trivial
 have hK:=((((Kept.refl w).alloc (.cells #[.bool s,.slice a1 k1 c1,.bool t,.slice a2 k2 c2] 89)).alloc (.cells #[.bool s',.slice b1 k3 c3,.bool t',.slice b2 k4 c4] 89)))
 simp only [World.size_alloc] at r3
 generalize ((w.alloc (.cells #[.bool s,.slice a1 k1 c1,.bool t,.slice a2 k2 c2] 89)).alloc (.cells #[.bool s',.slice b1 k3 c3,.bool t',.slice b2 k4 c4] 89)) = W at r2 r3 hK ⊢
 obtain ⟨p4,hp4⟩:∃ p,p = w.heap.size + 1 + 1:=⟨_,rfl⟩
 obtain ⟨p3,hp3⟩:∃ p,p = w.heap.size + 1:=⟨_,rfl⟩
 rw [<- hp3] at r3 ⊢
 obtain ⟨p2,hp2⟩:∃ p,p = w.heap.size:=⟨_,rfl⟩
 rw [<- hp2] at r2 ⊢
 have HP:Hid (w.heap.size<=p4):=by show _<=_; omega
 have n42:¬ p4 = p2:=by omega
 have n43:¬ p4 = p3:=by omega
 have HV:Hid (∀ V,Kept W V->FRow V p2 (.bool s) (.slice a1 k1 c1) (.bool t) (.slice a2 k2 c2)/\FRow V p3 (.bool s') (.slice b1 k3 c3) (.bool t') (.slice b2 k4 c4)/\True/\Kept w V):=fun V hV => ⟨r2.kept hV,r3.kept hV,trivial,hK.trans hV⟩
 obtain ⟨⟨q0',q1',q2',q3'⟩,q4',q5',q6',q7'⟩:=frow_two r2 r3
 clear hp2 hp3 hp4 r2 r3 r4 hK
 go_region_held3 (fun w' => w'.cell? ⟨p2,0,none⟩ = some (.bool s)/\w'.cell? ⟨p2,1,none⟩ = some (.slice a1 k1 c1)/\w'.cell? ⟨p2,2,none⟩ = some (.bool t)/\w'.cell? ⟨p2,3,none⟩ = some (.slice a2 k2 c2)/\w'.cell? ⟨p3,0,none⟩ = some (.bool s')/\w'.cell? ⟨p3,1,none⟩ = some (.slice b1 k3 c3)/\w'.cell? ⟨p3,2,none⟩ = some (.bool t')/\w'.cell? ⟨p3,3,none⟩ = some (.slice b2 k4 c4)) (go_keep) (first
  | (go_at_call_of 71 (Value.slice a1 k1 c1); refine (D.Times_any s t' a1 b2 k1 k4 c1 c4 X Y' _ (HA.out.1.kept (HV.out _ (Kept.refl _).drew).2.2.2) (HA.out.2.2.2.1.kept (HV.out _ (Kept.refl _).drew).2.2.2) (by have:=HL.out.1; omega) (by have:=HL.out.1; omega)).mono ?_; rintro e w1 ⟨hk1,s1x,a1x,k1x,c1x,rfl,n1,l1⟩; have H1':Hid (D.NIs w1 s1x (.slice a1x k1x c1x) (X * Y')/\k1x<=600):=⟨n1,by have:=HL.out.1; omega⟩; clear n1 l1; have K1:=(Kept.refl W).drew.trans hk1; obtain ⟨⟨da0',da1',da2',da3'⟩,da4',da5',da6',da7'⟩:=frow_two (HV.out _ K1).1 (HV.out _ K1).2.1)
  | (go_at_call 71; refine (D.Times_any s' t b1 a2 k3 k2 c3 c2 X' Y _ (HA.out.2.2.1.kept (HV.out _ K1).2.2.2) (HA.out.2.1.kept (HV.out _ K1).2.2.2) (by have:=HL.out.1; omega) (by have:=HL.out.1; omega)).mono ?_; rintro e w2 ⟨hk2,s2x,a2x,k2x,c2x,rfl,n2,l2⟩; have H2':Hid (D.NIs w2 s2x (.slice a2x k2x c2x) (X' * Y)/\k2x<=600):=⟨n2,by have:=HL.out.1; omega⟩; clear n2 l2; have K2:=K1.trans hk2; obtain ⟨⟨db0',db1',db2',db3'⟩,db4',db5',db6',db7'⟩:=frow_two (HV.out _ K2).1 (HV.out _ K2).2.1)
  | (go_at_call 77; refine (D.Held_any s1x s2x a1x a2x k1x k2x c1x c2x _ _ _ (H1'.out.1.kept hk2) H2'.out.1 (by have:=H1'.out.2; omega) (by have:=H2'.out.2; omega)).mono ?_; rintro e w3 ⟨rfl,hk3⟩; have K3:=K2.trans hk3; obtain ⟨⟨dc0',dc1',dc2',dc3'⟩,dc4',dc5',dc6',dc7'⟩:=frow_two (HV.out _ K3).1 (HV.out _ K3).2.1))
 have HZ:=hid' (HV.out _ K3).2.2.2
 clear q0' q1' q2' q3' q4' q5' q6' q7' da0' da1' da2' da3' da4' da5' da6' da7' db0' db1' db2' db3' db4' db5' db6' db7' dc0' dc1' dc2' dc3' dc4' dc5' dc6' dc7' hk1 hk2 hk3 K1 K2 K3 HV
 go_wp2
 go_ret
 exact ⟨HZ.out,rfl⟩
def ZN (w:World) (p:Nat):Prop:=w.rowIs p 87 2 (fun i => if i = 0 then .bool false else .slice none 0 0)
theorem ZN.alloc (w:World):ZN (w.alloc (.cells #[.bool false,.slice none 0 0] 87)) w.heap.size :=
 World.rowIs_alloc w #[.bool false,.slice none 0 0] 87 _ (fun i hi => by
  match i,hi with
  | 0,_ => rfl
  | 1,_ => rfl)
theorem ZN.lt {w:World} {p:Nat} (h:ZN w p):p < w.heap.size:=World.rowIs.lt h
theorem ZN.c0 {w:World} {p:Nat} (h:ZN w p):w.cell? ⟨p,0,none⟩ = some (.bool false):=World.rowIs.cell h (i:=0) (by omega)
theorem ZN.c1 {w:World} {p:Nat} (h:ZN w p):w.cell? ⟨p,1,none⟩ = some (.slice none 0 0):=World.rowIs.cell h (i:=1) (by omega)
theorem ZN.fz {w:World} {p:Nat} (h:ZN w p) (o:Nat):w.frozen? ⟨p,o,none⟩ = false:=World.rowIs.frozen h o
theorem ZN.kept {p:Nat} {w w':World} (h:ZN w p) (k:Kept w w'):ZN w' p:=World.rowIs.of_block h (k.block p h.lt)
theorem ZN.far {w:World} {p q:Nat} (h:ZN w p) (hne:¬ p = q) (x y:Value):ZN ((w.setCell ⟨q,0,none⟩ x).setCell ⟨q,1,none⟩ y) p :=
 World.rowIs.setOther (World.rowIs.setOther h hne x) hne y
end F
end Go.Proofs.YtembglnonhlnkaaGreatDoor
namespace Go.Proofs.YtembglnonhlnkaaGreatDoor
open Go.ChangeShapes Go.WideShapes Go.ChangeAt Go.RowKit Go.Joins Go.Deep
namespace V
theorem cells_model:Tryz.prog.cellsOf 43 = 4:=by kernel_rfl
theorem cells_num:Tryz.prog.cellsOf 26 = 2:=by kernel_rfl
theorem cells_nums:Tryz.prog.cellsOf 27 = 1:=by kernel_rfl
theorem cells_i:Tryz.prog.cellsOf 3 = 1:=by kernel_rfl
theorem cells_i64:Tryz.prog.cellsOf 2 = 1:=by kernel_rfl
theorem cells_u8:Tryz.prog.cellsOf 5 = 1:=by kernel_rfl
theorem cells_str:Tryz.prog.cellsOf 9 = 1:=by kernel_rfl
theorem bytes_num:Tryz.prog.bytesOf 26 = 16:=by kernel_rfl
def I64 (n:Int):Prop:=-9223372036854775808<=n/\n<=9223372036854775807
theorem bnd {x:Int} (w:(Lit.int .i64 x).wf = true):I64 x:=by
 unfold I64
 simpa [Lit.wf,IntKind.min,IntKind.max,IntKind.signed,IntKind.bits] using w
set_option maxRecDepth 100000 in
theorem open_pair {H:Type} {enc:TypeId × Value->H} {W:World} {fuel:Nat} {c0 c1:Value} {y:DataW H × List MemPlace} (h:DataW.trod enc Tryz.prog W 0 (fun _ => true) true fuel 26 [c0,c1] = some y) :
  ∃ m x:Int,c0 = .int .i64 m/\c1 = .int .i64 x/\I64 m/\I64 x:=by
 obtain ⟨y0,y1,n,_,_,h0,h1⟩:=trod_struct2 (cs:=[c0,c1]) Tryz.underlying26 h
 simp only [cells_i64,List.drop_zero,List.take_succ_cons,List.take_zero] at h0
 simp only [cells_i,List.drop_succ_cons,List.drop_zero,List.take_succ_cons,List.take_zero] at h1
 obtain ⟨m,e0,_,wm⟩:=DataW.trod_int Tryz.underlying2 h0
 obtain ⟨x,e1,_,wx⟩:=DataW.trod_int Tryz.underlying3 h1
 simp at e0 e1
 exact ⟨m,x,e0,e1,bnd wm,bnd wx⟩
theorem list_of {n:Nat} (X:Nat->Int × Int):∃ l:List (Int × Int),l.length = n/\∀ i,i < n->l.getD i (0,0) = X i:=by
 refine ⟨(List.range n).map X,by simp,fun i hi => ?_⟩
 rw [List.getD_eq_getElem?_getD,List.getElem?_map,List.getElem?_range hi]
 rfl
set_option maxRecDepth 100000 in
theorem open_nums {H:Type} {enc:TypeId × Value->H} {W:World} {fuel:Nat} {a0:Option Addr} {len0 cap0:Nat} {y:DataW H × List MemPlace} (h:DataW.trod enc Tryz.prog W 0 (fun _ => true) true fuel 27 [.slice a0 len0 cap0] = some y) :
  ∃ l,NSl W (.slice a0 len0 cap0) l/\len0<=9223372036854775807:=by
 rcases open_slice Tryz.underlying27 h with ⟨hcs,_⟩ | ⟨a,len,cap,mm,nn,D,Pl,hcs,_,hl,hm,hmm,_,hx⟩
 ·
  simp at hcs
  obtain ⟨rfl,rfl,rfl⟩:=hcs
  exact ⟨[],⟨none,0,rfl,fun h => absurd h (by decide)⟩,by omega⟩
 ·
  simp at hcs
  obtain ⟨rfl,rfl,rfl⟩:=hcs
  have hlen:len0<=9223372036854775807:=by unfold maxLen at hm; omega
  rw [if_pos rfl] at hmm
  by_cases hN:0 < len0
  ·
   have hspot:a.spot = none:=by
    obtain ⟨cs',h1,_⟩:=hx 0 (by omega)
    rw [cells_num] at h1
    obtain ⟨_,hlen4,hc⟩:=World.cells?_some h1
    have h0:=hc 0 (by omega)
    simp [Addr.add] at h0
    exact World.cell?_spot (h0.trans (List.getElem?_eq_getElem (by omega)))
   obtain ⟨b,off,spot⟩:=a
   simp at hspot
   subst hspot
   obtain ⟨X,hX⟩:=choose_lt (n:=len0) (p:=fun i (x:Int × Int) => W.cell? ⟨b,off + i * 2,none⟩ = some (.int .i64 x.1)/\W.cell? ⟨b,off + i * 2 + 1,none⟩ = some (.int .i64 x.2)) (fun i hi => by
    obtain ⟨cs',h1,h2⟩:=hx i (by omega)
    rw [cells_num] at h1
    obtain ⟨_,hlen4,hc⟩:=World.cells?_some h1
    match cs',hlen4 with
    | [x0,x1],_ =>
     obtain ⟨m,x,rfl,rfl,_,_⟩:=open_pair h2
     have add4:∀ q j,((⟨b,off,none⟩:Addr).add q).add j = ⟨b,off + q + j,none⟩:=fun q j => by
      unfold Addr.add
      by_cases hi0:q = 0 <;> by_cases hj0:j = 0 <;> simp [hi0,hj0]
     have c0:=hc 0 (by omega)
     have c1:=hc 1 (by omega)
     rw [add4] at c0 c1
     exact ⟨(m,x),c0,c1⟩)
   obtain ⟨l,hll,hg⟩:=list_of (n:=len0) X
   refine ⟨l,⟨some ⟨b,off,none⟩,cap0,by rw [hll],fun _ => ⟨b,off,rfl,World.block_lt_of_cell? W _ (hX 0 hN).1,fun j hj => ?_⟩⟩,hlen⟩
   rw [hg j (by omega)]
   exact hX j (by omega)
  ·
   obtain rfl:len0 = 0:=by omega
   exact ⟨[],⟨some a,cap0,rfl,fun h => absurd h (by decide)⟩,by omega⟩
set_option maxRecDepth 100000 in
theorem open_Model {H:Type} {enc:TypeId × Value->H} {W:World} {r:Reach} {b0:Nat} {v:Value} {d:DataW H} {p:List MemPlace} (hv:Value.okWide Tryz.prog W r b0 43 v)
  (h:DataW.Trod enc Tryz.prog W 0 (fun _ => true) true 43 v d p):∃ (s:ByteArray) (k:Int) (a1 a2:Option Addr) (n c m c':Nat) (gs vs:List (Int × Int)),v = .agg #[.string s,.int .u8 k,.slice a1 n c,.slice a2 m c']/\s.size<=9223372036854775807/\NSl W (.slice a1 n c) gs/\NSl W (.slice a2 m c') vs:=by
 obtain ⟨cs,rfl,hsz⟩:=okWide_struct Tryz.underlying43 hv
 obtain ⟨c0,c1,c2,c3,rfl⟩:=array4 (hsz.trans cells_model)
 obtain ⟨fuel,hf⟩:=h
 obtain ⟨y0,y1,y2,y3,q,_,_,h0,h1,h2,h3⟩:=trod_struct4 (cs:=[c0,c1,c2,c3]) Tryz.underlying43 hf
 simp only [cells_str,List.drop_zero,List.take_succ_cons,List.take_zero] at h0
 simp only [cells_u8,List.drop_succ_cons,List.drop_zero,List.take_succ_cons,List.take_zero] at h1
 simp only [cells_nums,List.drop_succ_cons,List.drop_zero,List.take_succ_cons,List.take_zero] at h2
 simp only [cells_nums,List.drop_succ_cons,List.drop_zero,List.take_succ_cons,List.take_zero] at h3
 obtain ⟨s,e0,_,ws⟩:=DataW.trod_string Tryz.underlying9 h0
 obtain ⟨k,e1,_,wk⟩:=DataW.trod_int Tryz.underlying5 h1
 simp at e0 e1
 subst e0 e1
 obtain ⟨a1,n,c,rfl⟩:∃ a1 n c,c2 = .slice a1 n c:=by
  rcases open_slice Tryz.underlying27 h2 with ⟨hcs,_⟩ | ⟨a,len,cap,_,_,_,_,hcs,_⟩
  ·
   simp at hcs; exact ⟨_,_,_,hcs⟩
  ·
   simp at hcs; exact ⟨_,_,_,hcs⟩
 obtain ⟨a2,m,c',rfl⟩:∃ a2 m c',c3 = .slice a2 m c':=by
  rcases open_slice Tryz.underlying27 h3 with ⟨hcs,_⟩ | ⟨a,len,cap,_,_,_,_,hcs,_⟩
  ·
   simp at hcs; exact ⟨_,_,_,hcs⟩
  ·
   simp at hcs; exact ⟨_,_,_,hcs⟩
 obtain ⟨gs,hgs,_⟩:=open_nums h2
 obtain ⟨vs,hvs,_⟩:=open_nums h3
 exact ⟨s,k,a1,a2,n,c,m,c',gs,vs,rfl,by unfold maxLen at ws; omega,hgs,hvs⟩
set_option maxRecDepth 100000 in
theorem model_sized {H:Type} {enc:TypeId × Value->H} {W:World} {s:ByteArray} {k:Int} {a1 a2:Option Addr} {n c m c':Nat} {d:DataW H} {p:List MemPlace}
  (h:DataW.Trod enc Tryz.prog W 0 (fun _ => true) true 43 (.agg #[.string s,.int .u8 k,.slice a1 n c,.slice a2 m c']) d p) (hz:∀ x ∈ d.weights Tryz.prog 43,x<=reachBytes) :
  (n + 1) * 16<=140737488355328/\(m + 1) * 16<=140737488355328:=by
 obtain ⟨fuel,hf⟩:=h
 obtain ⟨y0,y1,y2,y3,q,hy,_,h0,h1,h2,h3⟩:=trod_struct4 (cs:=[.string s,.int .u8 k,.slice a1 n c,.slice a2 m c']) Tryz.underlying43 hf
 simp only [cells_nums,List.drop_succ_cons,List.drop_zero,List.take_succ_cons,List.take_zero] at h2
 simp only [cells_nums,List.drop_succ_cons,List.drop_zero,List.take_succ_cons,List.take_zero] at h3
 simp only [Prod.mk.injEq] at hy
 obtain ⟨rfl,_⟩:=hy
 have hz1:∀ x ∈ y2.1.weights Tryz.prog 27,x<=reachBytes:=fun x hx => hz x (by
  simp only [DataW.weights,Tryz.underlying43,DataW.weightsEach,List.map_cons,List.mem_append]
  exact Or.inr (Or.inr (Or.inl hx)))
 have hz2:∀ x ∈ y3.1.weights Tryz.prog 27,x<=reachBytes:=fun x hx => hz x (by
  simp only [DataW.weights,Tryz.underlying43,DataW.weightsEach,List.map_cons,List.mem_append]
  exact Or.inr (Or.inr (Or.inr (Or.inl hx))))
 unfold reachBytes at hz1 hz2
 constructor
 ·
  rcases open_slice Tryz.underlying27 h2 with ⟨hcs,_⟩ | ⟨a,len,cap,mm,nn,D,Pl,hcs,_,_,_,_,rfl,_⟩
  ·
   simp at hcs
   obtain ⟨_,rfl,_⟩:=hcs
   omega
  ·
   simp at hcs
   obtain ⟨_,rfl,_⟩:=hcs
   have:=hz1 ((n + (mm - n)) * 16) (by simp [DataW.weights,Tryz.underlying27,bytes_num])
   omega
 ·
  rcases open_slice Tryz.underlying27 h3 with ⟨hcs,_⟩ | ⟨a,len,cap,mm,nn,D,Pl,hcs,_,_,_,_,rfl,_⟩
  ·
   simp at hcs
   obtain ⟨_,rfl,_⟩:=hcs
   omega
  ·
   simp at hcs
   obtain ⟨_,rfl,_⟩:=hcs
   have:=hz2 ((m + (mm - m)) * 16) (by simp [DataW.weights,Tryz.underlying27,bytes_num])
   omega
end V
end Go.Proofs.YtembglnonhlnkaaGreatDoor
namespace Go.Proofs.YtembglnonhlnkaaGreatDoor
open Go.ChangeShapes Go.WideShapes Go.ChangeAt Go.RowKit Go.Joins Go.Deep
namespace V
open X (bs RS)
theorem cells_strs1:Tryz.prog.cellsOf 9 = 1:=by kernel_rfl
set_option maxRecDepth 100000 in
theorem words_of {H:Type} {enc:TypeId × Value->H} {W:World} {fuel:Nat} {v:Value} {y:DataW H × List MemPlace} (hf:DataW.trod enc Tryz.prog W 0 (fun _ => true) true fuel 22 [v] = some y):∃ (ao:Option Addr) (n c:Nat) (ws:List (List UInt8)),v = .slice ao n c/\RS W (.slice ao n c) ws/\n<=c/\c<=9223372036854775807/\∀ x ∈ ws,x.length<=9223372036854775807:=by
 obtain ⟨ao,n,c,rfl⟩:∃ ao n c,v = .slice ao n c:=by
  rcases open_slice Tryz.underlying22 hf with ⟨hcs,_⟩ | ⟨a,len,cap,_,_,_,_,hcs,_⟩
  ·
   simp at hcs; exact ⟨_,_,_,hcs⟩
  ·
   simp at hcs; exact ⟨_,_,_,hcs⟩
 rcases open_strings Tryz.underlying22 Tryz.underlying9 cells_strs1 hf with ⟨hcs,_⟩ | ⟨a,len,cap,ss,hcs,_,hl,hm,hz,_,hcell,hws⟩
 ·
  simp only [List.cons.injEq,Value.slice.injEq,and_true] at hcs
  obtain ⟨rfl,rfl,rfl⟩:=hcs
  exact ⟨none,0,0,[],rfl,⟨none,0,rfl,fun h => absurd h (by decide)⟩,Nat.le_refl _,by omega,by simp⟩
 ·
  simp only [List.cons.injEq,Value.slice.injEq,and_true] at hcs
  obtain ⟨rfl,rfl,rfl⟩:=hcs
  rw [if_pos rfl] at hz
  have hm':c<=9223372036854775807:=by unfold maxLen at hm; omega
  have hln:((ss.take n).map (fun s => s.data.toList)).length = n:=by rw [List.length_map,List.length_take]; omega
  refine ⟨some a,n,c,(ss.take n).map (fun s => s.data.toList),rfl,⟨some a,c,by rw [hln],fun h0 => ?_⟩,hl,hm',?_⟩
  ·
   rw [hln] at h0 ⊢
   have hc0:=hcell 0 (by omega)
   have hspot:a.spot = none:=by
    simp [Addr.add] at hc0
    exact World.cell?_spot hc0
   obtain ⟨b,off,spot⟩:=a
   simp at hspot
   subst hspot
   refine ⟨b,off,rfl,World.block_lt_of_cell? W _ (hcell 0 (by omega)),fun j hj => ?_⟩
   have hcj:=hcell j (by omega)
   have ha:(⟨b,off,none⟩:Addr).add j = ⟨b,off + j,none⟩:=by
    unfold Addr.add
    by_cases hj0:j = 0 <;> simp [hj0]
   rw [ha] at hcj
   have e1:ss.getD j ByteArray.empty = ss[j]'(by omega):=by rw [List.getD_eq_getElem?_getD,List.getElem?_eq_getElem (by omega)]; rfl
   have e2:((ss.take n).map (fun s => s.data.toList)).getD j [] = (ss[j]'(by omega)).data.toList:=by
    rw [List.getD_eq_getElem?_getD,List.getElem?_map,List.getElem?_take_of_lt hj,List.getElem?_eq_getElem (by omega)]
    rfl
   rw [hcj,e1,e2]
   rfl
  ·
   intro x hx
   obtain ⟨s,hs,rfl⟩:=List.mem_map.1 hx
   have:=hws s (List.mem_of_mem_take hs)
   rw [X.len_list]
   unfold maxLen at this
   omega
end V
end Go.Proofs.YtembglnonhlnkaaGreatDoor

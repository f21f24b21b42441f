/- Lemmas. -/
import Derived.Test.YtihnknnddldgiaaGreatDoorGag
import Derived.Test.YtihnknnddldgiaaGreatDoorGai
import Derived.Test.YtihnknnddldgiaaGreatDoorGan
import Derived.Deep.RegionWith
namespace Go.Proofs.YtihnknnddldgiaaGreatDoor
open Go.RowKit
namespace D
def NumR (w:World) (e:Ending) (G:Prop) (z:Int):Prop :=
 (G/\∃ sg ao k cap,e = .returned (.tuple #[.agg #[.bool sg,.slice ao k cap],.bool true])/\NIs w sg (.slice ao k cap) z/\k<=3000000) ∨ (¬ G/\e = .returned (.tuple #[.agg #[.bool false,.slice none 0 0],.bool false]))
theorem small_int (x:Int) (w:World) (h0:0<=x) (h1:x < 65536) :
  Calls Tryz.prog 48 #[.int .i64 x] w fun e w' => Kept w w'/\∃ ao n cap,e = .returned (.agg #[.bool false,.slice ao n cap])/\NIs w' false (.slice ao n cap) x/\n<=1:=by
 obtain ⟨v,rfl⟩:=Int.eq_ofNat_of_zero_le h0
 refine (small_any v w (by omega)).mono ?_
 rintro e w' ⟨hk,ao,n,cap,l,rfl,hs,ht,hv,hl⟩
 exact ⟨hk,ao,n,cap,rfl,⟨l,hs,⟨hs.bd,ht,fun _ => rfl⟩,by simp [int,hv]⟩,by rw [hs.len]; exact hl⟩
theorem part_succ (s:ByteArray) (f i:Nat) (hf:f<=i) (hi:i < s.size):(s.data.toList.take (i + 1)).drop f = (s.data.toList.take i).drop f ++ [s[i]]:=by
 rw [take_get s i hi,List.drop_append_of_le_length]
 rw [List.length_take,list_len]; omega
theorem part_all (s:ByteArray) (f i:Nat) (hi:s.size<=i):(s.data.toList.take i).drop f = s.data.toList.drop f:=by
 rw [List.take_of_length_le (by rw [list_len]; exact hi)]
theorem part_none (s:ByteArray) (f:Nat):(s.data.toList.take f).drop f = []:=by
 apply List.drop_eq_nil_of_le; rw [List.length_take]; omega
theorem dv_next (s:ByteArray) (f i:Nat) (hf:f<=i) (hi:i < s.size) (h:48<=s[i].toNat):((dv ((s.data.toList.take (i + 1)).drop f):Nat):Int) = (dv ((s.data.toList.take i).drop f):Nat) * 10 + ((s[i].toNat:Int) - 48):=by
 rw [part_succ s f i hf hi,dv_snoc]; omega
theorem NIs.box {w:World} {sg:Bool} {v:Value} {z:Int} {b:Nat} {q:Bool} {ao:Option Addr} {n cap:Nat} (h:NIs w sg v z) (h0:w.cell? ⟨b,0,none⟩ = some (.bool q)) (h1:w.cell? ⟨b,1,none⟩ = some (.slice ao n cap)) (x y:Value):NIs ((w.setCell ⟨b,0,none⟩ x).setCell ⟨b,1,none⟩ y) sg v z:=by
 obtain ⟨l,h2,h3⟩:=h
 exact ⟨l,h2.box h0 h1 x y,h3⟩
set_option maxRecDepth 100000 in
set_option maxHeartbeats 4000000 in
theorem number_nz (s:ByteArray) (w:World) (hs:s.size<=1048576) (hF:0 < s.size) (hA:(((s[0]'(by omega)).toNat:Int) == 45) = false) (hB:((s[0].toNat:Int) == 48) = false) (G:Prop) (hG:G ↔ ∀ k (hk:k < s.size),0<=k->48<=s[k].toNat/\s[k].toNat<=57) :
  Calls Tryz.prog 57 #[.string s] w fun e w' => Kept w w'/\NumR w' e G ((dv (s.data.toList.drop 0):Int)):=by
 have HG:Hid (G ↔ ∀ k (hk:k < s.size),0<=k->48<=s[k].toNat/\s[k].toNat<=57):=hG
 have hsz:((s.size:Int) == 0) = false:=beq_eq_false_iff_ne.2 (by omega)
 clear hG
 go_enter Tryz.func57,Tryz.ntmps57
 go_wp2_with fail
 refine (small_int 10 _ (by omega) (by omega)).mono ?_
 rintro e w1 ⟨hk1,aot,nt,capt,rfl,hN1,hnt⟩
 have HK1:Hid (Kept ((w.alloc (Obj.cells #[.bool false,.slice none 0 0] 76)).alloc (Obj.cells #[.bool false,.slice none 0 0] 76)) w1):=hk1
 have HT:Hid (NIs w1 false (.slice aot nt capt) 10/\nt<=1):=⟨hN1,hnt⟩
 have hz1:w.heap.size + 1 + 1<=w1.heap.size:=by have:=hk1.size; simpa using this
 have hne1:¬ (w.heap.size + 1 = w1.heap.size):=by omega
 have hne2:¬ (w.heap.size = w1.heap.size):=by omega
 clear hk1 hN1 hnt
 go_wp2_with fail
 go_loopw [8] (fun vi wr => ∃ (i:Nat) (sg:Bool) (aoa:Option Addr) (k cap:Nat),vi = .int .i64 (i:Int)/\0<=i/\i<=s.size/\wr.cell? ⟨w.heap.size + 1,0,none⟩ = some (.bool sg)/\wr.cell? ⟨w.heap.size + 1,1,none⟩ = some (.slice aoa k cap)/\wr.cell? ⟨w1.heap.size,0,none⟩ = some (.bool false)/\wr.cell? ⟨w1.heap.size,1,none⟩ = some (.slice aot nt capt) /\
   wr.cell? ⟨w.heap.size,0,none⟩ = some (.bool false)/\wr.cell? ⟨w.heap.size,1,none⟩ = some (.slice none 0 0)/\wr.frozen? ⟨w.heap.size + 1,0,none⟩ = false/\wr.frozen? ⟨w.heap.size + 1,1,none⟩ = false/\wr.frozen? ⟨w.heap.size,0,none⟩ = false/\wr.frozen? ⟨w.heap.size,1,none⟩ = false /\
   Hid (k<=2 * i/\NIs wr sg (.slice aoa k cap) (dv ((s.data.toList.take i).drop 0):Nat)/\NIs wr false (.slice aot nt capt) 10)/\Hid (∀ k (hk:k < s.size),0<=k->k < i->48<=s[k].toNat/\s[k].toNat<=57)/\Hid (Kept w wr/\w1.heap.size < wr.heap.size)) (fun vi _ => s.size - (intOf vi).toNat)
 case atStart =>
  have hk:=HK1.out
  have c:=fun b o (h:b < w.heap.size + 1 + 1) => hk.cells b o (by simpa using h)
  have f:=fun b o (h:b < w.heap.size + 1 + 1) => hk.frozens b o (by simpa using h)
  have ca:∀ x b o v,b < w1.heap.size->w1.cell? ⟨b,o,none⟩ = some v->(w1.alloc x).cell? ⟨b,o,none⟩ = some v:=fun x b o v _ h => cell_kept ((Kept.refl w1).alloc x) h
  refine ⟨0,false,none,0,0,rfl,Nat.le_refl _,by omega,?_,?_,?_,?_,?_,?_,?_,?_,?_,?_,⟨by omega,?_,HT.out.1.kept ((Kept.refl _).alloc _)⟩,fun k _ h1 h2 => by omega,(((Kept.refl w).alloc _).alloc _ |>.trans hk).alloc _,by simp⟩
  ·
   exact ca _ _ _ _ (by omega) (by rw [c _ _ (by omega)]; simp)
  ·
   exact ca _ _ _ _ (by omega) (by rw [c _ _ (by omega)]; simp)
  ·
   exact World.cell?_alloc_at _ _ _ _ (by simp)
  ·
   exact World.cell?_alloc_at _ _ _ _ (by simp)
  ·
   exact ca _ _ _ _ (by omega) (by rw [c _ _ (by omega)]; simp)
  ·
   exact ca _ _ _ _ (by omega) (by rw [c _ _ (by omega)]; simp)
  ·
   rw [((Kept.refl w1).alloc _).frozens _ _ (by omega),f _ _ (by omega)]; simp
  ·
   rw [((Kept.refl w1).alloc _).frozens _ _ (by omega),f _ _ (by omega)]; simp
  ·
   rw [((Kept.refl w1).alloc _).frozens _ _ (by omega),f _ _ (by omega)]; simp
  ·
   rw [((Kept.refl w1).alloc _).frozens _ _ (by omega),f _ _ (by omega)]; simp
  ·
   exact ⟨[],Sl.nil _ _ _,⟨D.Bd_nil,.inl rfl,fun _ => rfl⟩,by rw [part_none]; rfl⟩
 case round =>
  obtain ⟨i,sg,aoa,k,cap,rfl,hi0,hi1,ha0,ha1,ht0,ht1,hr0,hr1,hfa0,hfa1,hfr0,hfr1,hI,hD,hKK⟩:=hrel
  by_cases hlt:i < s.size
  ·
   by_cases hd:48<=s[i].toNat/\s[i].toNat<=57
   ·
    have hd1:48<=(s[i].toNat:Int):=by omega
    have hd2:(s[i].toNat:Int)<=57:=by omega
    have HD1:Hid (48<=s[i].toNat/\s[i].toNat<=57):=hd
    have hkl:k<=4000000:=by have:=hI.out.1; omega
    have hntl:nt<=1:=HT.out.2
    have hkc:Kept wr wr.drew:=(Kept.refl wr).drew
    have hw1:IntKind.u8.wrap ((s[i].toNat:Int) - 48) = (s[i].toNat:Int) - 48:=by rw [IntKind.wrap_u8]; omega
    have hw2:IntKind.i64.wrap ((s[i].toNat:Int) - 48) = (s[i].toNat:Int) - 48:=by rw [IntKind.wrap_i64]; omega
    clear hd
    go_wp2_with fail
    refine wp_region_held_drew (S:=fun w' => w'.cell? ⟨w1.heap.size,0,none⟩ = some (.bool false)/\w'.cell? ⟨w1.heap.size,1,none⟩ = some (.slice aot nt capt)) (by kernel_rfl) ⟨cell_kept hkc ht0,cell_kept hkc ht1⟩ (fun hHeld => ?_)
    refine wk 3 hHeld ?_
    refine wk 4 hHeld ?_
    refine wk 5 hHeld ?_
    refine wk 6 hHeld ?_
    refine wk 7 hHeld ?_
    refine wk 1 hHeld ?_
    refine rdy 0 fun K hK => ?_
    go_simp
    refine hK.out _ _ hHeld (fun _ => ?_)
    clear hK K
    refine rdy 2 fun K hK => ?_
    go_simp
    refine (Times_any sg false aoa aot k nt cap capt _ 10 _ (hI.out.2.1.kept hkc) (hI.out.2.2.kept hkc) (by omega) (by omega)).mono ?_
    rintro e w2 ⟨hk2,s2,a2,k2,c2,rfl,hN2,hl2⟩
    have HN2:Hid (NIs w2 s2 (.slice a2 k2 c2) (((dv ((s.data.toList.take i).drop 0):Nat):Int) * 10)/\Kept wr w2/\k2<=k + nt):=⟨hN2,hkc.trans hk2,hl2⟩
    have ha0:=cell_kept (hkc.trans hk2) ha0
    have ha1:=cell_kept (hkc.trans hk2) ha1
    have ht0:=cell_kept (hkc.trans hk2) ht0
    have ht1:=cell_kept (hkc.trans hk2) ht1
    have hr0:=cell_kept (hkc.trans hk2) hr0
    have hr1:=cell_kept (hkc.trans hk2) hr1
    clear hk2 hN2 hl2
    refine hK.out _ _ ⟨ht0,ht1⟩ (fun _ => ?_)
    clear hK K
    refine rdy 8 fun K hK => ?_
    go_simp
    refine (small_int _ _ (by omega) (by omega)).mono ?_
    rintro e w3 ⟨hk3,a3,n3,c3,rfl,hN3,hn3⟩
    have HN3:Hid (NIs w3 false (.slice a3 n3 c3) ((s[i].toNat:Int) - 48)/\Kept w2 w3/\n3<=1):=⟨hN3,hk3,hn3⟩
    have ha0:=cell_kept hk3 ha0
    have ha1:=cell_kept hk3 ha1
    have ht0:=cell_kept hk3 ht0
    have ht1:=cell_kept hk3 ht1
    have hr0:=cell_kept hk3 hr0
    have hr1:=cell_kept hk3 hr1
    clear hk3 hN3 hn3
    refine hK.out _ _ ⟨ht0,ht1⟩ (fun _ => ?_)
    clear hK K
    refine rdy 9 fun K hK => ?_
    go_simp
    refine (Plus_any s2 false a2 a3 k2 n3 c2 c3 _ _ _ (HN2.out.1.kept HN3.out.2.1) HN3.out.1 (by have:=HN2.out.2.2; omega) (by have:=HN3.out.2.2; omega)).mono ?_
    rintro e w4 ⟨hk4,s4,a4,k4,c4,rfl,hN4,hl4⟩
    have ha0:=cell_kept hk4 ha0
    have ha1:=cell_kept hk4 ha1
    have ht0:=cell_kept hk4 ht0
    have ht1:=cell_kept hk4 ht1
    have hr0:=cell_kept hk4 hr0
    have hr1:=cell_kept hk4 hr1
    have hk5:Kept wr w4:=(HN2.out.2.1.trans HN3.out.2.1).trans hk4
    have HN4:Hid (NIs w4 s4 (.slice a4 k4 c4) ((dv ((s.data.toList.take (i + 1)).drop 0):Nat))/\k4<=2 * (i + 1)):=by
     refine ⟨?_,?_⟩
     ·
      rw [dv_next s _ i hi0 hlt HD1.out.1]; exact hN4
     ·
      have h1:=HN2.out.2.2
      have h2:=HN3.out.2.2
      have h3:=hI.out.1
      omega
    have HK5:Hid (Kept wr w4/\NIs w4 false (.slice aot nt capt) 10):=⟨hk5,hI.out.2.2.kept hk5⟩
    have hfa0:=(hk5.frozens _ _ (by have:=hKK.out.2; omega)).trans hfa0
    have hfa1:=(hk5.frozens _ _ (by have:=hKK.out.2; omega)).trans hfa1
    have hfr0:=(hk5.frozens _ _ (by have:=hKK.out.2; omega)).trans hfr0
    have hfr1:=(hk5.frozens _ _ (by have:=hKK.out.2; omega)).trans hfr1
    clear hk4 hN4 hl4 hk5
    refine hK.out _ _ ⟨ht0,ht1⟩ (fun _ => ?_)
    clear hK K
    refine rdy 10 fun K hK => ?_
    go_simp
    refine hK.out _ _ ⟨?_,?_⟩ (fun _ => ?_)
    ·
     rw [World.cell?_setCell_far _ _ _ _ hne1,World.cell?_setCell_far _ _ _ _ hne1]; exact ht0
    ·
     rw [World.cell?_setCell_far _ _ _ _ hne1,World.cell?_setCell_far _ _ _ _ hne1]; exact ht1
    clear hK K
    refine dn ?_
    go_wp2
    go_roundw
    case rel =>
     have hne3:¬ (w.heap.size + 1 = w.heap.size):=by omega
     refine ⟨i + 1,s4,a4,k4,c4,by go_num,by omega,by omega,?_,?_,?_,?_,?_,?_,?_,?_,?_,?_,⟨HN4.out.2,HN4.out.1.box ha0 ha1 _ _,HK5.out.2.box ha0 ha1 _ _⟩,?_,?_⟩
     ·
      rw [World.cell?_setCell_other _ _ _ _ (by simp)]; exact World.cell?_setCell_same _ _ _ ha0
     ·
      exact World.cell?_setCell_same _ _ _ (by rw [World.cell?_setCell_other _ _ _ _ (by simp)]; exact ha1)
     ·
      rw [World.cell?_setCell_far _ _ _ _ hne1,World.cell?_setCell_far _ _ _ _ hne1]; exact ht0
     ·
      rw [World.cell?_setCell_far _ _ _ _ hne1,World.cell?_setCell_far _ _ _ _ hne1]; exact ht1
     ·
      rw [World.cell?_setCell_far _ _ _ _ hne3,World.cell?_setCell_far _ _ _ _ hne3]; exact hr0
     ·
      rw [World.cell?_setCell_far _ _ _ _ hne3,World.cell?_setCell_far _ _ _ _ hne3]; exact hr1
     ·
      rw [World.frozen?_setCell,World.frozen?_setCell]; exact hfa0
     ·
      rw [World.frozen?_setCell,World.frozen?_setCell]; exact hfa1
     ·
      rw [World.frozen?_setCell,World.frozen?_setCell]; exact hfr0
     ·
      rw [World.frozen?_setCell,World.frozen?_setCell]; exact hfr1
     ·
      intro j hj h1 h2
      by_cases hji:j = i
      ·
       subst hji; exact HD1.out
      ·
       exact hD.out j hj h1 (by omega)
     ·
      exact ⟨((hKK.out.1.trans HK5.out.1).setCell (by simp) _).setCell (by simp) _,by rw [World.size_setCell,World.size_setCell]; exact Nat.lt_of_lt_of_le hKK.out.2 HK5.out.1.size⟩
    case measure => simp [intOf]; omega
   ·
    have HNG:Hid (¬ G):=fun g => hd ((HG.out.1 g) i hlt hi0)
    have hd':(s[i].toNat:Int) < 48 ∨ 57 < (s[i].toNat:Int):=by omega
    have HK:Hid (Kept w wr):=hKK.out.1
    clear hd
    rcases hd' with hd1 | hd1
    ·
     go_wp2
     exact bodyPost_ret (v:=.tuple #[.agg #[.bool false,.slice none 0 0],.bool false]) (by simp [results,Tryz.results57,go_sem,hr0,hr1]) rfl ⟨(HK.out.setCell (by simp) _).setCell (by simp) _,.inr ⟨HNG.out,rfl⟩⟩
    ·
     have hd2:48<=(s[i].toNat:Int):=by omega
     go_wp2
     exact bodyPost_ret (v:=.tuple #[.agg #[.bool false,.slice none 0 0],.bool false]) (by simp [results,Tryz.results57,go_sem,hr0,hr1]) rfl ⟨(HK.out.setCell (by simp) _).setCell (by simp) _,.inr ⟨HNG.out,rfl⟩⟩
  ·
   have HGY:Hid G:=HG.out.2 (fun j hj h1 => hD.out j hj h1 (by omega))
   have HV:Hid (NIs wr sg (.slice aoa k cap) (dv (s.data.toList.drop 0):Nat)/\k<=3000000):=⟨by rw [<- part_all s _ i (by omega)]; exact hI.out.2.1,by have:=hI.out.1; omega⟩
   have HK:Hid (Kept w wr):=hKK.out.1
   go_wp2
   exact bodyPost_ret (v:=.tuple #[.agg #[.bool sg,.slice aoa k cap],.bool true]) (by simp [results,Tryz.results57,go_sem,hr0,hr1]) rfl ⟨(HK.out.setCell (by simp) _).setCell (by simp) _,.inl ⟨HGY.out,sg,aoa,k,cap,rfl,HV.out.1.box hr0 hr1 _ _,HV.out.2⟩⟩
set_option maxRecDepth 100000 in
set_option maxHeartbeats 4000000 in
theorem number_nought (s:ByteArray) (w:World) (hs:s.size<=1048576) (hF:0 < s.size) (hA:(((s[0]'(by omega)).toNat:Int) == 45) = false) (hB:((s[0].toNat:Int) == 48) = true) (hC:s.size<=1) (G:Prop) (hG:G ↔ ∀ k (hk:k < s.size),0<=k->48<=s[k].toNat/\s[k].toNat<=57) :
  Calls Tryz.prog 57 #[.string s] w fun e w' => Kept w w'/\NumR w' e G ((dv (s.data.toList.drop 0):Int)):=by
 have HG:Hid (G ↔ ∀ k (hk:k < s.size),0<=k->48<=s[k].toNat/\s[k].toNat<=57):=hG
 have hsz:((s.size:Int) == 0) = false:=beq_eq_false_iff_ne.2 (by omega)
 clear hG
 go_enter Tryz.func57,Tryz.ntmps57
 go_wp2_with fail
 refine (small_int 10 _ (by omega) (by omega)).mono ?_
 rintro e w1 ⟨hk1,aot,nt,capt,rfl,hN1,hnt⟩
 have HK1:Hid (Kept ((w.alloc (Obj.cells #[.bool false,.slice none 0 0] 76)).alloc (Obj.cells #[.bool false,.slice none 0 0] 76)) w1):=hk1
 have HT:Hid (NIs w1 false (.slice aot nt capt) 10/\nt<=1):=⟨hN1,hnt⟩
 have hz1:w.heap.size + 1 + 1<=w1.heap.size:=by have:=hk1.size; simpa using this
 have hne1:¬ (w.heap.size + 1 = w1.heap.size):=by omega
 have hne2:¬ (w.heap.size = w1.heap.size):=by omega
 clear hk1 hN1 hnt
 go_wp2_with fail
 go_loopw [8] (fun vi wr => ∃ (i:Nat) (sg:Bool) (aoa:Option Addr) (k cap:Nat),vi = .int .i64 (i:Int)/\0<=i/\i<=s.size/\wr.cell? ⟨w.heap.size + 1,0,none⟩ = some (.bool sg)/\wr.cell? ⟨w.heap.size + 1,1,none⟩ = some (.slice aoa k cap)/\wr.cell? ⟨w1.heap.size,0,none⟩ = some (.bool false)/\wr.cell? ⟨w1.heap.size,1,none⟩ = some (.slice aot nt capt) /\
   wr.cell? ⟨w.heap.size,0,none⟩ = some (.bool false)/\wr.cell? ⟨w.heap.size,1,none⟩ = some (.slice none 0 0)/\wr.frozen? ⟨w.heap.size + 1,0,none⟩ = false/\wr.frozen? ⟨w.heap.size + 1,1,none⟩ = false/\wr.frozen? ⟨w.heap.size,0,none⟩ = false/\wr.frozen? ⟨w.heap.size,1,none⟩ = false /\
   Hid (k<=2 * i/\NIs wr sg (.slice aoa k cap) (dv ((s.data.toList.take i).drop 0):Nat)/\NIs wr false (.slice aot nt capt) 10)/\Hid (∀ k (hk:k < s.size),0<=k->k < i->48<=s[k].toNat/\s[k].toNat<=57)/\Hid (Kept w wr/\w1.heap.size < wr.heap.size)) (fun vi _ => s.size - (intOf vi).toNat)
 case atStart =>
  have hk:=HK1.out
  have c:=fun b o (h:b < w.heap.size + 1 + 1) => hk.cells b o (by simpa using h)
  have f:=fun b o (h:b < w.heap.size + 1 + 1) => hk.frozens b o (by simpa using h)
  have ca:∀ x b o v,b < w1.heap.size->w1.cell? ⟨b,o,none⟩ = some v->(w1.alloc x).cell? ⟨b,o,none⟩ = some v:=fun x b o v _ h => cell_kept ((Kept.refl w1).alloc x) h
  refine ⟨0,false,none,0,0,rfl,Nat.le_refl _,by omega,?_,?_,?_,?_,?_,?_,?_,?_,?_,?_,⟨by omega,?_,HT.out.1.kept ((Kept.refl _).alloc _)⟩,fun k _ h1 h2 => by omega,(((Kept.refl w).alloc _).alloc _ |>.trans hk).alloc _,by simp⟩
  ·
   exact ca _ _ _ _ (by omega) (by rw [c _ _ (by omega)]; simp)
  ·
   exact ca _ _ _ _ (by omega) (by rw [c _ _ (by omega)]; simp)
  ·
   exact World.cell?_alloc_at _ _ _ _ (by simp)
  ·
   exact World.cell?_alloc_at _ _ _ _ (by simp)
  ·
   exact ca _ _ _ _ (by omega) (by rw [c _ _ (by omega)]; simp)
  ·
   exact ca _ _ _ _ (by omega) (by rw [c _ _ (by omega)]; simp)
  ·
   rw [((Kept.refl w1).alloc _).frozens _ _ (by omega),f _ _ (by omega)]; simp
  ·
   rw [((Kept.refl w1).alloc _).frozens _ _ (by omega),f _ _ (by omega)]; simp
  ·
   rw [((Kept.refl w1).alloc _).frozens _ _ (by omega),f _ _ (by omega)]; simp
  ·
   rw [((Kept.refl w1).alloc _).frozens _ _ (by omega),f _ _ (by omega)]; simp
  ·
   exact ⟨[],Sl.nil _ _ _,⟨D.Bd_nil,.inl rfl,fun _ => rfl⟩,by rw [part_none]; rfl⟩
 case round =>
  obtain ⟨i,sg,aoa,k,cap,rfl,hi0,hi1,ha0,ha1,ht0,ht1,hr0,hr1,hfa0,hfa1,hfr0,hfr1,hI,hD,hKK⟩:=hrel
  by_cases hlt:i < s.size
  ·
   by_cases hd:48<=s[i].toNat/\s[i].toNat<=57
   ·
    have hd1:48<=(s[i].toNat:Int):=by omega
    have hd2:(s[i].toNat:Int)<=57:=by omega
    have HD1:Hid (48<=s[i].toNat/\s[i].toNat<=57):=hd
    have hkl:k<=4000000:=by have:=hI.out.1; omega
    have hntl:nt<=1:=HT.out.2
    have hkc:Kept wr wr.drew:=(Kept.refl wr).drew
    have hw1:IntKind.u8.wrap ((s[i].toNat:Int) - 48) = (s[i].toNat:Int) - 48:=by rw [IntKind.wrap_u8]; omega
    have hw2:IntKind.i64.wrap ((s[i].toNat:Int) - 48) = (s[i].toNat:Int) - 48:=by rw [IntKind.wrap_i64]; omega
    clear hd
    go_wp2_with fail
    refine wp_region_held_drew (S:=fun w' => w'.cell? ⟨w1.heap.size,0,none⟩ = some (.bool false)/\w'.cell? ⟨w1.heap.size,1,none⟩ = some (.slice aot nt capt)) (by kernel_rfl) ⟨cell_kept hkc ht0,cell_kept hkc ht1⟩ (fun hHeld => ?_)
    refine wk 3 hHeld ?_
    refine wk 4 hHeld ?_
    refine wk 5 hHeld ?_
    refine wk 6 hHeld ?_
    refine wk 7 hHeld ?_
    refine wk 1 hHeld ?_
    refine rdy 0 fun K hK => ?_
    go_simp
    refine hK.out _ _ hHeld (fun _ => ?_)
    clear hK K
    refine rdy 2 fun K hK => ?_
    go_simp
    refine (Times_any sg false aoa aot k nt cap capt _ 10 _ (hI.out.2.1.kept hkc) (hI.out.2.2.kept hkc) (by omega) (by omega)).mono ?_
    rintro e w2 ⟨hk2,s2,a2,k2,c2,rfl,hN2,hl2⟩
    have HN2:Hid (NIs w2 s2 (.slice a2 k2 c2) (((dv ((s.data.toList.take i).drop 0):Nat):Int) * 10)/\Kept wr w2/\k2<=k + nt):=⟨hN2,hkc.trans hk2,hl2⟩
    have ha0:=cell_kept (hkc.trans hk2) ha0
    have ha1:=cell_kept (hkc.trans hk2) ha1
    have ht0:=cell_kept (hkc.trans hk2) ht0
    have ht1:=cell_kept (hkc.trans hk2) ht1
    have hr0:=cell_kept (hkc.trans hk2) hr0
    have hr1:=cell_kept (hkc.trans hk2) hr1
    clear hk2 hN2 hl2
    refine hK.out _ _ ⟨ht0,ht1⟩ (fun _ => ?_)
    clear hK K
    refine rdy 8 fun K hK => ?_
    go_simp
    refine (small_int _ _ (by omega) (by omega)).mono ?_
    rintro e w3 ⟨hk3,a3,n3,c3,rfl,hN3,hn3⟩
    have HN3:Hid (NIs w3 false (.slice a3 n3 c3) ((s[i].toNat:Int) - 48)/\Kept w2 w3/\n3<=1):=⟨hN3,hk3,hn3⟩
    have ha0:=cell_kept hk3 ha0
    have ha1:=cell_kept hk3 ha1
    have ht0:=cell_kept hk3 ht0
    have ht1:=cell_kept hk3 ht1
    have hr0:=cell_kept hk3 hr0
    have hr1:=cell_kept hk3 hr1
    clear hk3 hN3 hn3
    refine hK.out _ _ ⟨ht0,ht1⟩ (fun _ => ?_)
    clear hK K
    refine rdy 9 fun K hK => ?_
    go_simp
    refine (Plus_any s2 false a2 a3 k2 n3 c2 c3 _ _ _ (HN2.out.1.kept HN3.out.2.1) HN3.out.1 (by have:=HN2.out.2.2; omega) (by have:=HN3.out.2.2; omega)).mono ?_
    rintro e w4 ⟨hk4,s4,a4,k4,c4,rfl,hN4,hl4⟩
    have ha0:=cell_kept hk4 ha0
    have ha1:=cell_kept hk4 ha1
    have ht0:=cell_kept hk4 ht0
    have ht1:=cell_kept hk4 ht1
    have hr0:=cell_kept hk4 hr0
    have hr1:=cell_kept hk4 hr1
    have hk5:Kept wr w4:=(HN2.out.2.1.trans HN3.out.2.1).trans hk4
    have HN4:Hid (NIs w4 s4 (.slice a4 k4 c4) ((dv ((s.data.toList.take (i + 1)).drop 0):Nat))/\k4<=2 * (i + 1)):=by
     refine ⟨?_,?_⟩
     ·
      rw [dv_next s _ i hi0 hlt HD1.out.1]; exact hN4
     ·
      have h1:=HN2.out.2.2
      have h2:=HN3.out.2.2
      have h3:=hI.out.1
      omega
    have HK5:Hid (Kept wr w4/\NIs w4 false (.slice aot nt capt) 10):=⟨hk5,hI.out.2.2.kept hk5⟩
    have hfa0:=(hk5.frozens _ _ (by have:=hKK.out.2; omega)).trans hfa0
    have hfa1:=(hk5.frozens _ _ (by have:=hKK.out.2; omega)).trans hfa1
    have hfr0:=(hk5.frozens _ _ (by have:=hKK.out.2; omega)).trans hfr0
    have hfr1:=(hk5.frozens _ _ (by have:=hKK.out.2; omega)).trans hfr1
    clear hk4 hN4 hl4 hk5
    refine hK.out _ _ ⟨ht0,ht1⟩ (fun _ => ?_)
    clear hK K
    refine rdy 10 fun K hK => ?_
    go_simp
    refine hK.out _ _ ⟨?_,?_⟩ (fun _ => ?_)
    ·
     rw [World.cell?_setCell_far _ _ _ _ hne1,World.cell?_setCell_far _ _ _ _ hne1]; exact ht0
    ·
     rw [World.cell?_setCell_far _ _ _ _ hne1,World.cell?_setCell_far _ _ _ _ hne1]; exact ht1
    clear hK K
    refine dn ?_
    go_wp2
    go_roundw
    case rel =>
     have hne3:¬ (w.heap.size + 1 = w.heap.size):=by omega
     refine ⟨i + 1,s4,a4,k4,c4,by go_num,by omega,by omega,?_,?_,?_,?_,?_,?_,?_,?_,?_,?_,⟨HN4.out.2,HN4.out.1.box ha0 ha1 _ _,HK5.out.2.box ha0 ha1 _ _⟩,?_,?_⟩
     ·
      rw [World.cell?_setCell_other _ _ _ _ (by simp)]; exact World.cell?_setCell_same _ _ _ ha0
     ·
      exact World.cell?_setCell_same _ _ _ (by rw [World.cell?_setCell_other _ _ _ _ (by simp)]; exact ha1)
     ·
      rw [World.cell?_setCell_far _ _ _ _ hne1,World.cell?_setCell_far _ _ _ _ hne1]; exact ht0
     ·
      rw [World.cell?_setCell_far _ _ _ _ hne1,World.cell?_setCell_far _ _ _ _ hne1]; exact ht1
     ·
      rw [World.cell?_setCell_far _ _ _ _ hne3,World.cell?_setCell_far _ _ _ _ hne3]; exact hr0
     ·
      rw [World.cell?_setCell_far _ _ _ _ hne3,World.cell?_setCell_far _ _ _ _ hne3]; exact hr1
     ·
      rw [World.frozen?_setCell,World.frozen?_setCell]; exact hfa0
     ·
      rw [World.frozen?_setCell,World.frozen?_setCell]; exact hfa1
     ·
      rw [World.frozen?_setCell,World.frozen?_setCell]; exact hfr0
     ·
      rw [World.frozen?_setCell,World.frozen?_setCell]; exact hfr1
     ·
      intro j hj h1 h2
      by_cases hji:j = i
      ·
       subst hji; exact HD1.out
      ·
       exact hD.out j hj h1 (by omega)
     ·
      exact ⟨((hKK.out.1.trans HK5.out.1).setCell (by simp) _).setCell (by simp) _,by rw [World.size_setCell,World.size_setCell]; exact Nat.lt_of_lt_of_le hKK.out.2 HK5.out.1.size⟩
    case measure => simp [intOf]; omega
   ·
    have HNG:Hid (¬ G):=fun g => hd ((HG.out.1 g) i hlt hi0)
    have hd':(s[i].toNat:Int) < 48 ∨ 57 < (s[i].toNat:Int):=by omega
    have HK:Hid (Kept w wr):=hKK.out.1
    clear hd
    rcases hd' with hd1 | hd1
    ·
     go_wp2
     exact bodyPost_ret (v:=.tuple #[.agg #[.bool false,.slice none 0 0],.bool false]) (by simp [results,Tryz.results57,go_sem,hr0,hr1]) rfl ⟨(HK.out.setCell (by simp) _).setCell (by simp) _,.inr ⟨HNG.out,rfl⟩⟩
    ·
     have hd2:48<=(s[i].toNat:Int):=by omega
     go_wp2
     exact bodyPost_ret (v:=.tuple #[.agg #[.bool false,.slice none 0 0],.bool false]) (by simp [results,Tryz.results57,go_sem,hr0,hr1]) rfl ⟨(HK.out.setCell (by simp) _).setCell (by simp) _,.inr ⟨HNG.out,rfl⟩⟩
  ·
   have HGY:Hid G:=HG.out.2 (fun j hj h1 => hD.out j hj h1 (by omega))
   have HV:Hid (NIs wr sg (.slice aoa k cap) (dv (s.data.toList.drop 0):Nat)/\k<=3000000):=⟨by rw [<- part_all s _ i (by omega)]; exact hI.out.2.1,by have:=hI.out.1; omega⟩
   have HK:Hid (Kept w wr):=hKK.out.1
   go_wp2
   exact bodyPost_ret (v:=.tuple #[.agg #[.bool sg,.slice aoa k cap],.bool true]) (by simp [results,Tryz.results57,go_sem,hr0,hr1]) rfl ⟨(HK.out.setCell (by simp) _).setCell (by simp) _,.inl ⟨HGY.out,sg,aoa,k,cap,rfl,HV.out.1.box hr0 hr1 _ _,HV.out.2⟩⟩
set_option maxRecDepth 100000 in
set_option maxHeartbeats 4000000 in
theorem number_neg (s:ByteArray) (w:World) (hs:s.size<=1048576) (hF:1 < s.size) (hA:(((s[0]'(by omega)).toNat:Int) == 45) = true) (hB:((s[1].toNat:Int) == 48) = false) (G:Prop) (hG:G ↔ ∀ k (hk:k < s.size),1<=k->48<=s[k].toNat/\s[k].toNat<=57) :
  Calls Tryz.prog 57 #[.string s] w fun e w' => Kept w w'/\NumR w' e G (-(dv (s.data.toList.drop 1):Int)):=by
 have HG:Hid (G ↔ ∀ k (hk:k < s.size),1<=k->48<=s[k].toNat/\s[k].toNat<=57):=hG
 have hsz:((s.size:Int) == 1) = false:=beq_eq_false_iff_ne.2 (by omega)
 clear hG
 go_enter Tryz.func57,Tryz.ntmps57
 go_wp2_with fail
 refine (small_int 10 _ (by omega) (by omega)).mono ?_
 rintro e w1 ⟨hk1,aot,nt,capt,rfl,hN1,hnt⟩
 have HK1:Hid (Kept ((w.alloc (Obj.cells #[.bool false,.slice none 0 0] 76)).alloc (Obj.cells #[.bool false,.slice none 0 0] 76)) w1):=hk1
 have HT:Hid (NIs w1 false (.slice aot nt capt) 10/\nt<=1):=⟨hN1,hnt⟩
 have hz1:w.heap.size + 1 + 1<=w1.heap.size:=by have:=hk1.size; simpa using this
 have hne1:¬ (w.heap.size + 1 = w1.heap.size):=by omega
 have hne2:¬ (w.heap.size = w1.heap.size):=by omega
 clear hk1 hN1 hnt
 go_wp2_with fail
 go_loopw [8] (fun vi wr => ∃ (i:Nat) (sg:Bool) (aoa:Option Addr) (k cap:Nat),vi = .int .i64 (i:Int)/\1<=i/\i<=s.size/\wr.cell? ⟨w.heap.size + 1,0,none⟩ = some (.bool sg)/\wr.cell? ⟨w.heap.size + 1,1,none⟩ = some (.slice aoa k cap)/\wr.cell? ⟨w1.heap.size,0,none⟩ = some (.bool false)/\wr.cell? ⟨w1.heap.size,1,none⟩ = some (.slice aot nt capt) /\
   wr.cell? ⟨w.heap.size,0,none⟩ = some (.bool false)/\wr.cell? ⟨w.heap.size,1,none⟩ = some (.slice none 0 0)/\wr.frozen? ⟨w.heap.size + 1,0,none⟩ = false/\wr.frozen? ⟨w.heap.size + 1,1,none⟩ = false/\wr.frozen? ⟨w.heap.size,0,none⟩ = false/\wr.frozen? ⟨w.heap.size,1,none⟩ = false /\
   Hid (k<=2 * i/\NIs wr sg (.slice aoa k cap) (dv ((s.data.toList.take i).drop 1):Nat)/\NIs wr false (.slice aot nt capt) 10)/\Hid (∀ k (hk:k < s.size),1<=k->k < i->48<=s[k].toNat/\s[k].toNat<=57)/\Hid (Kept w wr/\w1.heap.size < wr.heap.size)) (fun vi _ => s.size - (intOf vi).toNat)
 case atStart =>
  have hk:=HK1.out
  have c:=fun b o (h:b < w.heap.size + 1 + 1) => hk.cells b o (by simpa using h)
  have f:=fun b o (h:b < w.heap.size + 1 + 1) => hk.frozens b o (by simpa using h)
  have ca:∀ x b o v,b < w1.heap.size->w1.cell? ⟨b,o,none⟩ = some v->(w1.alloc x).cell? ⟨b,o,none⟩ = some v:=fun x b o v _ h => cell_kept ((Kept.refl w1).alloc x) h
  refine ⟨1,false,none,0,0,rfl,Nat.le_refl _,by omega,?_,?_,?_,?_,?_,?_,?_,?_,?_,?_,⟨by omega,?_,HT.out.1.kept ((Kept.refl _).alloc _)⟩,fun k _ h1 h2 => by omega,(((Kept.refl w).alloc _).alloc _ |>.trans hk).alloc _,by simp⟩
  ·
   exact ca _ _ _ _ (by omega) (by rw [c _ _ (by omega)]; simp)
  ·
   exact ca _ _ _ _ (by omega) (by rw [c _ _ (by omega)]; simp)
  ·
   exact World.cell?_alloc_at _ _ _ _ (by simp)
  ·
   exact World.cell?_alloc_at _ _ _ _ (by simp)
  ·
   exact ca _ _ _ _ (by omega) (by rw [c _ _ (by omega)]; simp)
  ·
   exact ca _ _ _ _ (by omega) (by rw [c _ _ (by omega)]; simp)
  ·
   rw [((Kept.refl w1).alloc _).frozens _ _ (by omega),f _ _ (by omega)]; simp
  ·
   rw [((Kept.refl w1).alloc _).frozens _ _ (by omega),f _ _ (by omega)]; simp
  ·
   rw [((Kept.refl w1).alloc _).frozens _ _ (by omega),f _ _ (by omega)]; simp
  ·
   rw [((Kept.refl w1).alloc _).frozens _ _ (by omega),f _ _ (by omega)]; simp
  ·
   exact ⟨[],Sl.nil _ _ _,⟨D.Bd_nil,.inl rfl,fun _ => rfl⟩,by rw [part_none]; rfl⟩
 case round =>
  obtain ⟨i,sg,aoa,k,cap,rfl,hi0,hi1,ha0,ha1,ht0,ht1,hr0,hr1,hfa0,hfa1,hfr0,hfr1,hI,hD,hKK⟩:=hrel
  by_cases hlt:i < s.size
  ·
   by_cases hd:48<=s[i].toNat/\s[i].toNat<=57
   ·
    have hd1:48<=(s[i].toNat:Int):=by omega
    have hd2:(s[i].toNat:Int)<=57:=by omega
    have HD1:Hid (48<=s[i].toNat/\s[i].toNat<=57):=hd
    have hkl:k<=4000000:=by have:=hI.out.1; omega
    have hntl:nt<=1:=HT.out.2
    have hkc:Kept wr wr.drew:=(Kept.refl wr).drew
    have hw1:IntKind.u8.wrap ((s[i].toNat:Int) - 48) = (s[i].toNat:Int) - 48:=by rw [IntKind.wrap_u8]; omega
    have hw2:IntKind.i64.wrap ((s[i].toNat:Int) - 48) = (s[i].toNat:Int) - 48:=by rw [IntKind.wrap_i64]; omega
    clear hd
    go_wp2_with fail
    refine wp_region_held_drew (S:=fun w' => w'.cell? ⟨w1.heap.size,0,none⟩ = some (.bool false)/\w'.cell? ⟨w1.heap.size,1,none⟩ = some (.slice aot nt capt)) (by kernel_rfl) ⟨cell_kept hkc ht0,cell_kept hkc ht1⟩ (fun hHeld => ?_)
    refine wk 3 hHeld ?_
    refine wk 4 hHeld ?_
    refine wk 5 hHeld ?_
    refine wk 6 hHeld ?_
    refine wk 7 hHeld ?_
    refine wk 1 hHeld ?_
    refine rdy 0 fun K hK => ?_
    go_simp
    refine hK.out _ _ hHeld (fun _ => ?_)
    clear hK K
    refine rdy 2 fun K hK => ?_
    go_simp
    refine (Times_any sg false aoa aot k nt cap capt _ 10 _ (hI.out.2.1.kept hkc) (hI.out.2.2.kept hkc) (by omega) (by omega)).mono ?_
    rintro e w2 ⟨hk2,s2,a2,k2,c2,rfl,hN2,hl2⟩
    have HN2:Hid (NIs w2 s2 (.slice a2 k2 c2) (((dv ((s.data.toList.take i).drop 1):Nat):Int) * 10)/\Kept wr w2/\k2<=k + nt):=⟨hN2,hkc.trans hk2,hl2⟩
    have ha0:=cell_kept (hkc.trans hk2) ha0
    have ha1:=cell_kept (hkc.trans hk2) ha1
    have ht0:=cell_kept (hkc.trans hk2) ht0
    have ht1:=cell_kept (hkc.trans hk2) ht1
    have hr0:=cell_kept (hkc.trans hk2) hr0
    have hr1:=cell_kept (hkc.trans hk2) hr1
    clear hk2 hN2 hl2
    refine hK.out _ _ ⟨ht0,ht1⟩ (fun _ => ?_)
    clear hK K
    refine rdy 8 fun K hK => ?_
    go_simp
    refine (small_int _ _ (by omega) (by omega)).mono ?_
    rintro e w3 ⟨hk3,a3,n3,c3,rfl,hN3,hn3⟩
    have HN3:Hid (NIs w3 false (.slice a3 n3 c3) ((s[i].toNat:Int) - 48)/\Kept w2 w3/\n3<=1):=⟨hN3,hk3,hn3⟩
    have ha0:=cell_kept hk3 ha0
    have ha1:=cell_kept hk3 ha1
    have ht0:=cell_kept hk3 ht0
    have ht1:=cell_kept hk3 ht1
    have hr0:=cell_kept hk3 hr0
    have hr1:=cell_kept hk3 hr1
    clear hk3 hN3 hn3
    refine hK.out _ _ ⟨ht0,ht1⟩ (fun _ => ?_)
    clear hK K
    refine rdy 9 fun K hK => ?_
    go_simp
    refine (Plus_any s2 false a2 a3 k2 n3 c2 c3 _ _ _ (HN2.out.1.kept HN3.out.2.1) HN3.out.1 (by have:=HN2.out.2.2; omega) (by have:=HN3.out.2.2; omega)).mono ?_
    rintro e w4 ⟨hk4,s4,a4,k4,c4,rfl,hN4,hl4⟩
    have ha0:=cell_kept hk4 ha0
    have ha1:=cell_kept hk4 ha1
    have ht0:=cell_kept hk4 ht0
    have ht1:=cell_kept hk4 ht1
    have hr0:=cell_kept hk4 hr0
    have hr1:=cell_kept hk4 hr1
    have hk5:Kept wr w4:=(HN2.out.2.1.trans HN3.out.2.1).trans hk4
    have HN4:Hid (NIs w4 s4 (.slice a4 k4 c4) ((dv ((s.data.toList.take (i + 1)).drop 1):Nat))/\k4<=2 * (i + 1)):=by
     refine ⟨?_,?_⟩
     ·
      rw [dv_next s _ i hi0 hlt HD1.out.1]; exact hN4
     ·
      have h1:=HN2.out.2.2
      have h2:=HN3.out.2.2
      have h3:=hI.out.1
      omega
    have HK5:Hid (Kept wr w4/\NIs w4 false (.slice aot nt capt) 10):=⟨hk5,hI.out.2.2.kept hk5⟩
    have hfa0:=(hk5.frozens _ _ (by have:=hKK.out.2; omega)).trans hfa0
    have hfa1:=(hk5.frozens _ _ (by have:=hKK.out.2; omega)).trans hfa1
    have hfr0:=(hk5.frozens _ _ (by have:=hKK.out.2; omega)).trans hfr0
    have hfr1:=(hk5.frozens _ _ (by have:=hKK.out.2; omega)).trans hfr1
    clear hk4 hN4 hl4 hk5
    refine hK.out _ _ ⟨ht0,ht1⟩ (fun _ => ?_)
    clear hK K
    refine rdy 10 fun K hK => ?_
    go_simp
    refine hK.out _ _ ⟨?_,?_⟩ (fun _ => ?_)
    ·
     rw [World.cell?_setCell_far _ _ _ _ hne1,World.cell?_setCell_far _ _ _ _ hne1]; exact ht0
    ·
     rw [World.cell?_setCell_far _ _ _ _ hne1,World.cell?_setCell_far _ _ _ _ hne1]; exact ht1
    clear hK K
    refine dn ?_
    go_wp2
    go_roundw
    case rel =>
     have hne3:¬ (w.heap.size + 1 = w.heap.size):=by omega
     refine ⟨i + 1,s4,a4,k4,c4,by go_num,by omega,by omega,?_,?_,?_,?_,?_,?_,?_,?_,?_,?_,⟨HN4.out.2,HN4.out.1.box ha0 ha1 _ _,HK5.out.2.box ha0 ha1 _ _⟩,?_,?_⟩
     ·
      rw [World.cell?_setCell_other _ _ _ _ (by simp)]; exact World.cell?_setCell_same _ _ _ ha0
     ·
      exact World.cell?_setCell_same _ _ _ (by rw [World.cell?_setCell_other _ _ _ _ (by simp)]; exact ha1)
     ·
      rw [World.cell?_setCell_far _ _ _ _ hne1,World.cell?_setCell_far _ _ _ _ hne1]; exact ht0
     ·
      rw [World.cell?_setCell_far _ _ _ _ hne1,World.cell?_setCell_far _ _ _ _ hne1]; exact ht1
     ·
      rw [World.cell?_setCell_far _ _ _ _ hne3,World.cell?_setCell_far _ _ _ _ hne3]; exact hr0
     ·
      rw [World.cell?_setCell_far _ _ _ _ hne3,World.cell?_setCell_far _ _ _ _ hne3]; exact hr1
     ·
      rw [World.frozen?_setCell,World.frozen?_setCell]; exact hfa0
     ·
      rw [World.frozen?_setCell,World.frozen?_setCell]; exact hfa1
     ·
      rw [World.frozen?_setCell,World.frozen?_setCell]; exact hfr0
     ·
      rw [World.frozen?_setCell,World.frozen?_setCell]; exact hfr1
     ·
      intro j hj h1 h2
      by_cases hji:j = i
      ·
       subst hji; exact HD1.out
      ·
       exact hD.out j hj h1 (by omega)
     ·
      exact ⟨((hKK.out.1.trans HK5.out.1).setCell (by simp) _).setCell (by simp) _,by rw [World.size_setCell,World.size_setCell]; exact Nat.lt_of_lt_of_le hKK.out.2 HK5.out.1.size⟩
    case measure => simp [intOf]; omega
   ·
    have HNG:Hid (¬ G):=fun g => hd ((HG.out.1 g) i hlt hi0)
    have hd':(s[i].toNat:Int) < 48 ∨ 57 < (s[i].toNat:Int):=by omega
    have HK:Hid (Kept w wr):=hKK.out.1
    clear hd
    rcases hd' with hd1 | hd1
    ·
     go_wp2
     exact bodyPost_ret (v:=.tuple #[.agg #[.bool false,.slice none 0 0],.bool false]) (by simp [results,Tryz.results57,go_sem,hr0,hr1]) rfl ⟨(HK.out.setCell (by simp) _).setCell (by simp) _,.inr ⟨HNG.out,rfl⟩⟩
    ·
     have hd2:48<=(s[i].toNat:Int):=by omega
     go_wp2
     exact bodyPost_ret (v:=.tuple #[.agg #[.bool false,.slice none 0 0],.bool false]) (by simp [results,Tryz.results57,go_sem,hr0,hr1]) rfl ⟨(HK.out.setCell (by simp) _).setCell (by simp) _,.inr ⟨HNG.out,rfl⟩⟩
  ·
   have HGY:Hid G:=HG.out.2 (fun j hj h1 => hD.out j hj h1 (by omega))
   have HV:Hid (NIs wr sg (.slice aoa k cap) (dv (s.data.toList.drop 1):Nat)/\k<=3000000):=⟨by rw [<- part_all s _ i (by omega)]; exact hI.out.2.1,by have:=hI.out.1; omega⟩
   have HK:Hid (Kept w wr):=hKK.out.1
   have hk3000:k<=3000000:=HV.out.2
   go_wp2_with fail
   refine (Minus_any sg aoa k cap _ _ HV.out.1 (by omega)).mono ?_
   rintro e w2 ⟨hk2,s2,a2,c2,rfl,hN2⟩
   have ha0:=cell_kept hk2 ha0
   have ha1:=cell_kept hk2 ha1
   have hr0:=cell_kept hk2 hr0
   have hr1:=cell_kept hk2 hr1
   have hfa0:=(hk2.frozens _ _ (by have:=hKK.out.2; omega)).trans hfa0
   have hfa1:=(hk2.frozens _ _ (by have:=hKK.out.2; omega)).trans hfa1
   have hfr0:=(hk2.frozens _ _ (by have:=hKK.out.2; omega)).trans hfr0
   have hfr1:=(hk2.frozens _ _ (by have:=hKK.out.2; omega)).trans hfr1
   have HN2:Hid (NIs w2 s2 (.slice a2 k c2) (-((dv (s.data.toList.drop 1):Nat):Int))/\Kept w w2):=⟨hN2,HK.out.trans hk2⟩
   have hne3:¬ (w.heap.size + 1 = w.heap.size):=by omega
   have far:∀ o x y v,w2.cell? ⟨w.heap.size,o,none⟩ = some v->((w2.setCell ⟨w.heap.size + 1,0,none⟩ x).setCell ⟨w.heap.size + 1,1,none⟩ y).cell? ⟨w.heap.size,o,none⟩ = some v:=fun o x y v h => by rw [World.cell?_setCell_far _ _ _ _ hne3,World.cell?_setCell_far _ _ _ _ hne3]; exact h
   have HFAR:Hid (∀ o x y v,w2.cell? ⟨w.heap.size,o,none⟩ = some v->((w2.setCell ⟨w.heap.size + 1,0,none⟩ x).setCell ⟨w.heap.size + 1,1,none⟩ y).cell? ⟨w.heap.size,o,none⟩ = some v):=far
   clear hk2 hN2 far
   go_wp2
   exact bodyPost_ret (v:=.tuple #[.agg #[.bool s2,.slice a2 k c2],.bool true]) (by simp [results,Tryz.results57,go_sem,hr0,hr1]) rfl ⟨(((HN2.out.2.setCell (by simp) _).setCell (by simp) _).setCell (by simp) _).setCell (by simp) _,.inl ⟨HGY.out,s2,a2,k,c2,rfl,(HN2.out.1.box ha0 ha1 _ _).box (HFAR.out _ _ _ _ hr0) (HFAR.out _ _ _ _ hr1) _ _,HV.out.2⟩⟩
theorem nz_iff (s:ByteArray):NZ (s.data.toList.drop 1) ↔ ∃ h:1 < s.size,s[1].toNat ≠ 48/\∀ k (hk:k < s.size),1<=k->48<=s[k].toNat/\s[k].toNat<=57:=by
 have hlen:(s.data.toList.drop 1).length = s.size - 1:=by rw [List.length_drop,list_len]
 have hget:∀ k (hk:k < s.size),1<=k->s[k] ∈ s.data.toList.drop 1:=fun k hk h1 => by
  rw [List.mem_iff_getElem]
  refine ⟨k - 1,by rw [hlen]; omega,?_⟩
  rw [List.getElem_drop]
  simp only [show 1 + (k - 1) = k by omega]
  rfl
 constructor
 ·
  intro h
  have h1:1 < s.size:=by
   have:=List.length_pos_iff.2 h.ne
   omega
  refine ⟨h1,?_,fun k hk h2 => h.dig _ (hget k hk h2)⟩
  apply h.head
  rw [List.head?_eq_getElem?,List.getElem?_eq_getElem (by rw [hlen]; omega),List.getElem_drop]
  rfl
 ·
  rintro ⟨h1,h2,h3⟩
  refine ⟨fun e => by rw [e] at hlen; simp at hlen; omega,fun c hc => ?_,fun c hc => ?_⟩
  ·
   obtain ⟨i,hi,rfl⟩:=List.mem_iff_getElem.1 hc
   rw [List.getElem_drop]
   exact h3 (1 + i) (by rw [hlen] at hi; omega) (by omega)
  ·
   rw [List.head?_eq_getElem?,List.getElem?_eq_getElem (by rw [hlen]; omega),List.getElem_drop] at hc
   obtain rfl:=Option.some.inj hc
   exact h2
theorem dig_iff (s:ByteArray):Dig s.data.toList ↔ ∀ k (hk:k < s.size),0<=k->48<=s[k].toNat/\s[k].toNat<=57 :=
 ⟨fun h k hk _ => h _ (get_mem s k hk),fun h => dig_of (fun k hk => h k hk (Nat.zero_le _))⟩
set_option maxRecDepth 100000 in
set_option maxHeartbeats 1000000 in
theorem number_empty (s:ByteArray) (w:World) (hs:s.size = 0):Calls Tryz.prog 57 #[.string s] w fun e w' => Kept w w'/\e = .returned (.tuple #[.agg #[.bool false,.slice none 0 0],.bool false]):=by
 have hsz:((s.size:Int) == 0) = true:=by simp [hs]
 have hsp:¬ (0 < (s.size:Int)):=by omega
 clear hs
 go_enter Tryz.func57,Tryz.ntmps57
 go_wp2
 exact bodyPost_ret (v:=.tuple #[.agg #[.bool false,.slice none 0 0],.bool false]) (by simp [results,Tryz.results57,go_sem]) rfl ⟨(Kept.refl w).alloc _,rfl⟩
set_option maxRecDepth 100000 in
set_option maxHeartbeats 1000000 in
theorem number_lone (s:ByteArray) (w:World) (hs0:0 < s.size) (hF:s.size<=1) (hA:(s[0].toNat:Int) == 45):Calls Tryz.prog 57 #[.string s] w fun e w' => Kept w w'/\e = .returned (.tuple #[.agg #[.bool false,.slice none 0 0],.bool false]):=by
 have hsz:((s.size:Int) == 1) = true:=beq_iff_eq.2 (by omega)
 go_enter Tryz.func57,Tryz.ntmps57
 go_wp2
 exact bodyPost_ret (v:=.tuple #[.agg #[.bool false,.slice none 0 0],.bool false]) (by simp [results,Tryz.results57,go_sem]) rfl ⟨(Kept.refl w).alloc _,rfl⟩
set_option maxRecDepth 100000 in
set_option maxHeartbeats 1000000 in
theorem number_zeros (s:ByteArray) (w:World) (hs:s.size<=1048576) (hF:1 < s.size) (hA:((s[0].toNat:Int) == 45) = false) (hB:((s[0].toNat:Int) == 48) = true):Calls Tryz.prog 57 #[.string s] w fun e w' => Kept w w'/\e = .returned (.tuple #[.agg #[.bool false,.slice none 0 0],.bool false]):=by
 have hsz:((s.size:Int) == 0) = false:=beq_eq_false_iff_ne.2 (by omega)
 have hs0:0 < s.size:=by omega
 go_enter Tryz.func57,Tryz.ntmps57
 go_wp2
 exact bodyPost_ret (v:=.tuple #[.agg #[.bool false,.slice none 0 0],.bool false]) (by simp [results,Tryz.results57,go_sem]) rfl ⟨(Kept.refl w).alloc _,rfl⟩
set_option maxRecDepth 100000 in
set_option maxHeartbeats 1000000 in
theorem number_less (s:ByteArray) (w:World) (hs:s.size<=1048576) (hF:1 < s.size) (hA:((s[0].toNat:Int) == 45) = true) (hB:((s[1].toNat:Int) == 48) = true):Calls Tryz.prog 57 #[.string s] w fun e w' => Kept w w'/\e = .returned (.tuple #[.agg #[.bool false,.slice none 0 0],.bool false]):=by
 have hsz:((s.size:Int) == 1) = false:=beq_eq_false_iff_ne.2 (by omega)
 have hs0:0 < s.size:=by omega
 go_enter Tryz.func57,Tryz.ntmps57
 go_wp2
 exact bodyPost_ret (v:=.tuple #[.agg #[.bool false,.slice none 0 0],.bool false]) (by simp [results,Tryz.results57,go_sem]) rfl ⟨(Kept.refl w).alloc _,rfl⟩
theorem beqI {x c:Nat}:(((x:Int) == (c:Int)) = true) ↔ x = c:=by rw [beq_iff_eq]; omega
theorem bneI {x c:Nat}:(((x:Int) == (c:Int)) = false) ↔ ¬ x = c:=by rw [beq_eq_false_iff_ne]; omega
theorem number_pos (s:ByteArray) (w:World) (hs:s.size<=1048576) (hne:∀ h:0 < s.size,¬ s[0].toNat = 45) :
  Calls Tryz.prog 57 #[.string s] w fun e w' => Kept w w'/\NumR w' e (Plain s.data.toList) (dv s.data.toList:Int):=by
 by_cases h0:0 < s.size
 ·
  have hA:=bneI.2 (hne h0)
  by_cases hB:s[0].toNat = 48
  ·
   by_cases h1:1 < s.size
   ·
    refine (number_zeros s w hs h1 hA (beqI.2 hB)).mono ?_
    rintro e w' ⟨hk,rfl⟩
    exact ⟨hk,.inr ⟨fun h => by have:=((plain_iff s).1 h).2.2 h0 hB; omega,rfl⟩⟩
   ·
    exact number_nought s w hs h0 hA (beqI.2 hB) (by omega) (Plain s.data.toList) (by
     rw [<- dig_iff,plain_iff]
     exact ⟨fun h => h.2.1,fun h => ⟨h0,h,fun _ _ => by omega⟩⟩)
  ·
   exact number_nz s w hs h0 hA (bneI.2 hB) (Plain s.data.toList) (by
    rw [<- dig_iff,plain_iff]
    exact ⟨fun h => h.2.1,fun h => ⟨h0,h,fun _ e => absurd e hB⟩⟩)
 ·
  refine (number_empty s w (by omega)).mono ?_
  rintro e w' ⟨hk,rfl⟩
  exact ⟨hk,.inr ⟨fun h => h0 ((plain_iff s).1 h).1,rfl⟩⟩
theorem number_minus (s:ByteArray) (w:World) (hs:s.size<=1048576) (h0:0 < s.size) (h45:s[0].toNat = 45) :
  Calls Tryz.prog 57 #[.string s] w fun e w' => Kept w w'/\NumR w' e (NZ (s.data.toList.drop 1)) (-(dv (s.data.toList.drop 1):Int)):=by
 by_cases h1:1 < s.size
 ·
  by_cases hB:s[1].toNat = 48
  ·
   refine (number_less s w hs h1 (beqI.2 h45) (beqI.2 hB)).mono ?_
   rintro e w' ⟨hk,rfl⟩
   exact ⟨hk,.inr ⟨fun h => by obtain ⟨_,h2,_⟩:=(nz_iff s).1 h; exact h2 hB,rfl⟩⟩
  ·
   exact number_neg s w hs h1 (beqI.2 h45) (bneI.2 hB) _ (by
    rw [nz_iff]
    exact ⟨fun ⟨_,_,h⟩ => h,fun h => ⟨h1,hB,h⟩⟩)
 ·
  refine (number_lone s w h0 (by omega) (beqI.2 h45)).mono ?_
  rintro e w' ⟨hk,rfl⟩
  exact ⟨hk,.inr ⟨fun h => h1 ((nz_iff s).1 h).1,rfl⟩⟩
theorem FinX.box {w:World} {s:Bool} {v:Value} {c z:Int} {b:Nat} {q:Bool} {ao:Option Addr} {n cap:Nat} (h:FinX w s v c z) (h0:w.cell? ⟨b,0,none⟩ = some (.bool q)) (h1:w.cell? ⟨b,1,none⟩ = some (.slice ao n cap)) (x y:Value):FinX ((w.setCell ⟨b,0,none⟩ x).setCell ⟨b,1,none⟩ y) s v c z:=by
 rcases h with ⟨hc,l,h2,h3⟩ | h
 ·
  exact .inl ⟨hc,l,sl_box h2 h0 h1 x y,h3⟩
 ·
  exact .inr h
def Tells (w:World) (e:Ending):Except Int Int->Prop
 | .error c => e = .returned (.tuple #[.agg #[.bool false,.slice none 0 0],.int .i64 c])
 | .ok z => ∃ s ao n cap c,e = .returned (.tuple #[.agg #[.bool s,.slice ao n cap],.int .i64 c])/\FinX w s (.slice ao n cap) c z
end D
end Go.Proofs.YtihnknnddldgiaaGreatDoor

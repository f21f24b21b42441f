/- flat.grounds. -/
import Derived.Test.YtdjhmgmjiglcbaaGreatDoorGay
import Derived.Test.YtdjhmgmjiglcbaaGreatDoorGag
set_option maxRecDepth 100000
set_option maxHeartbeats 8000000
namespace Go.Proofs.YtdjhmgmjiglcbaaGreatDoor
open Go.RowKit
namespace V
open Q (hid')
open X (RS)
theorem copy1 (V:World)(g od nd cd q os cs:Nat)(x:ByteArray)(y:Value)(hx:V.cell? ⟨q,os,none⟩=some (.string x))(hy:V.cell? ⟨g,od,none⟩=some y)(hf:V.frozen? ⟨g,od,none⟩=false)(hn:1<=nd) :
  (Builtin.copy_ #[22,22] 3 #[.slice (some ⟨g,od,none⟩) nd cd,.slice (some ⟨q,os,none⟩) 1 cs]).run Tryz.prog V=.ok (.int .i64 1) (V.setCell ⟨g,od,none⟩ (.string x)):=by
 obtain⟨i0,hi,hz0,hz1,hz2⟩:=info_parts X.info_str
 have hm:Nat.min 1 nd=1:=Nat.min_eq_left hn
 simp[Builtin.copy_,run_underlying X.und_strs,sizeOf,typeInfo,hi,hz1,Builtin.lenOf,Builtin.firstCells,hm,loadCells,loadCellsFrom,storeCells,go_sem,hx,hy,hf,goInt]
theorem copy2 (V:World)(g:Nat)(x x2:ByteArray)(y y2:Value)(hx:V.cell? ⟨g,0,none⟩=some (.string x))(hx2:V.cell? ⟨g,1,none⟩=some (.string x2))(hy:V.cell? ⟨g,2,none⟩=some y)(hy2:V.cell? ⟨g,3,none⟩=some y2)(hf:∀i,V.frozen? ⟨g,i,none⟩=false) :
  (Builtin.copy_ #[22,22] 3 #[.slice (some ⟨g,2,none⟩) 2 2,.slice (some ⟨g,0,none⟩) 2 4]).run Tryz.prog V=.ok (.int .i64 2) ((V.setCell ⟨g,2,none⟩ (.string x)).setCell ⟨g,3,none⟩ (.string x2)):=by
 obtain⟨i0,hi,hz0,hz1,hz2⟩:=info_parts X.info_str
 simp[Builtin.copy_,run_underlying X.und_strs,sizeOf,typeInfo,hi,hz1,Builtin.lenOf,Builtin.firstCells,loadCells,loadCellsFrom,storeCells,go_sem,hx,hx2,hy,hy2,hf,goInt]
theorem mul64_2 (w:World):Calls Tryz.prog 175 #[.int .u64 1,.int .u64 2] w fun e w'=>w'=w/\e=.returned (.tuple #[.int .u64 0,.int .u64 2]):=by
 go_enter Tryz.func175,Tryz.ntmps175
 go_wp2_with fail
 go_ret2
 exact⟨rfl,rfl⟩
theorem mul_2 (w:World):Calls Tryz.prog 149 #[.int .u64 1,.int .u64 2] w fun e w'=>w'=w/\e=.returned (.tuple #[.int .u64 0,.int .u64 2]):=by
 go_enter Tryz.func149,Tryz.ntmps149
 go_wp2_with fail
 refine(mul64_2 _).mono ?_
 rintro e w1 ⟨rfl,rfl⟩
 go_wp2_with fail
 go_ret2
 exact⟨rfl,rfl⟩
theorem mul64_4 (w:World):Calls Tryz.prog 175 #[.int .u64 1,.int .u64 4] w fun e w'=>w'=w/\e=.returned (.tuple #[.int .u64 0,.int .u64 4]):=by
 go_enter Tryz.func175,Tryz.ntmps175
 go_wp2_with fail
 go_ret2
 exact⟨rfl,rfl⟩
theorem mul_4 (w:World):Calls Tryz.prog 149 #[.int .u64 1,.int .u64 4] w fun e w'=>w'=w/\e=.returned (.tuple #[.int .u64 0,.int .u64 4]):=by
 go_enter Tryz.func149,Tryz.ntmps149
 go_wp2_with fail
 refine(mul64_4 _).mono ?_
 rintro e w1 ⟨rfl,rfl⟩
 go_wp2_with fail
 go_ret2
 exact⟨rfl,rfl⟩
theorem repeat_2 (q:Nat)(w:World)(h:w.cell? ⟨q,0,none⟩=some (.string ⟨#[48]⟩))(hq:q<w.heap.size):Calls Tryz.prog 122 #[.slice (some ⟨q,0,none⟩) 1 1,.int .i64 2] w fun e w'=>Kept w w'/\∃g,e=.returned (.slice (some ⟨g,0,none⟩) 2 2)/\RowL 9 w' g [.string ⟨#[48]⟩,.string ⟨#[48]⟩]/\w.heap.size<=g:=by
 obtain⟨i0,hi,hz0,hz1,hz2⟩:=info_parts X.info_str
 have hmk:∀u:World,(Instr.makeSlice 22 (.int .i64 2) (.int .i64 2)).run Tryz.prog u=.ok (.slice (some ⟨u.heap.size,0,none⟩) 2 2) (u.alloc (.cells #[.string ⟨#[]⟩,.string ⟨#[]⟩] 9)):=fun u=>by
  have h:=run_make (P:=Tryz.prog) u 22 9 i0 (.string ByteArray.empty) X.und_strs hi hz0 .i64 .i64 2 2 (by omega) (Int.le_refl _) (by rw[hz2];omega) (by omega)
  rw[hz1,show (2:Int).toNat=2 from rfl,made_rows]at h
  exact h
 have kA:=(Kept.refl w).alloc (.cells #[.string ⟨#[]⟩,.string ⟨#[]⟩] 9)
 have hA:=RowL.alloc 9 w [.string ⟨#[]⟩,.string ⟨#[]⟩]
 go_enter Tryz.func122,Tryz.ntmps122
 go_wp2_with fail
 refine(mul_2 _).mono ?_
 rintro e w1 ⟨rfl,rfl⟩
 go_upto_region 7 with fail
 generalize w1.alloc (.cells #[.string ⟨#[]⟩,.string ⟨#[]⟩] 9)=W at kA hA ⊢
 obtain⟨g,hg⟩:∃g,g=w1.heap.size:=⟨_,rfl⟩
 rw[<-hg]at hA ⊢
 have HG:=hid' (show w1.heap.size<=g by rw[hg];exact Nat.le_refl _)
 have hcp:=copy1 W g 0 2 2 q 0 1 ⟨#[48]⟩ _ ((Below.cell kA (p:=⟨q,0,none⟩) hq).trans h) (hA.cell 0 (.string ⟨#[]⟩)) (hA.fz 0) (by omega)
 have HI:=hid' (And.intro (kA.setCell (p:=⟨g,0,none⟩) HG.out (.string ⟨#[48]⟩)) (hA.set 0 (.string ⟨#[48]⟩)))
 clear kA hA hg h hmk
 go_wp2_with fail
 clear hcp
 generalize W.setCell ⟨g,0,none⟩ (.string ⟨#[48]⟩)=W1 at HI ⊢
 go_loopw [8] (fun v8 wr=>(v8=.int .i64 1/\Hid (Kept w1 wr/\RowL 9 wr g [.string ⟨#[48]⟩,.string ⟨#[]⟩]))∨(v8=.int .i64 2/\Hid (Kept w1 wr/\RowL 9 wr g [.string ⟨#[48]⟩,.string ⟨#[48]⟩]))) (fun v8 _=>2-(intOf v8).toNat)
 case atStart=>exact .inl ⟨rfl,HI.out⟩
 case round=>
  clear HI
  rcases hrel with ⟨rfl,H⟩|⟨rfl,H⟩
  ·go_upto_region 9 with fail
   have KT:Kept wr wr.drew:=(Kept.refl _).drew
   refine wp_region_held_drew (S:=fun _=>True) (by kernel_rfl) trivial (fun hHeld=>?_)
   generalize wr.drew=Wd at KT ⊢
   have hcp:=copy1 Wd g 1 1 1 g 0 2 ⟨#[48]⟩ _ ((H.out.2.kept KT).cell 0 _) ((H.out.2.kept KT).cell 1 (.string ⟨#[]⟩)) ((H.out.2.kept KT).fz 1) (by omega)
   have HN:=hid' (And.intro ((H.out.1.trans KT).setCell (p:=⟨g,1,none⟩) HG.out (.string ⟨#[48]⟩)) ((H.out.2.kept KT).set 1 (.string ⟨#[48]⟩)))
   refine tk 0 hHeld ?_
   refine tk 1 hHeld ?_
   refine tk 2 hHeld ?_
   refine tk 3 hHeld ?_
   refine tk 4 hHeld ?_
   refine tk 5 hHeld ?_
   refine tk 6 hHeld ?_
   refine rdy 7 fun K hK=>?_
   go_simp
   refine hK.out _ _ trivial (fun hHeld=>?_)
   clear hK K hcp KT H
   generalize Wd.setCell ⟨g,1,none⟩ (.string ⟨#[48]⟩)=Wn at HN ⊢
   refine tk 8 hHeld ?_
   refine tk 9 hHeld ?_
   refine dn ?_
   go_wp2_with fail
   go_roundw
   case rel=>exact .inr ⟨rfl,HN.out⟩
   case measure=>decide
  ·go_wp2_with fail
   go_ret
   exact⟨H.out.1,g,rfl,H.out.2,HG.out⟩
theorem grounds_2 (w:World):Calls Tryz.prog 82 #[.int .i64 2] w fun e w'=>Kept w w'/\∃g,e=.returned (.slice (some ⟨g,0,none⟩) 2 2)/\RowL 9 w' g [.string ⟨#[48]⟩,.string ⟨#[48]⟩]/\w.heap.size<=g:=by
 have kA:=(Kept.refl w).alloc (.cells #[.string ⟨#[48]⟩] 9)
 have hA:=RowL.alloc 9 w [.string ⟨#[48]⟩]
 have hR:=repeat_2 w.heap.size _ (hA.cell 0 _) hA.lt
 clear hA
 go_enter Tryz.func82,Tryz.ntmps82
 go_wp2_with fail
 refine hR.mono ?_
 rintro e w1 ⟨hk,g,rfl,hr,hg⟩
 have H:=hid' (And.intro (kA.trans hk) (And.intro hr (Nat.le_trans kA.size hg)))
 clear kA hk hr hR hg
 go_wp2_with fail
 go_ret
 exact⟨H.out.1,g,rfl,H.out.2.1,H.out.2.2⟩
theorem repeat_4 (q:Nat)(w:World)(h:w.cell? ⟨q,0,none⟩=some (.string ⟨#[48]⟩))(hq:q<w.heap.size):Calls Tryz.prog 122 #[.slice (some ⟨q,0,none⟩) 1 1,.int .i64 4] w fun e w'=>Kept w w'/\∃g,e=.returned (.slice (some ⟨g,0,none⟩) 4 4)/\RowL 9 w' g [.string ⟨#[48]⟩,.string ⟨#[48]⟩,.string ⟨#[48]⟩,.string ⟨#[48]⟩]/\w.heap.size<=g:=by
 obtain⟨i0,hi,hz0,hz1,hz2⟩:=info_parts X.info_str
 have hmk:∀u:World,(Instr.makeSlice 22 (.int .i64 4) (.int .i64 4)).run Tryz.prog u=.ok (.slice (some ⟨u.heap.size,0,none⟩) 4 4) (u.alloc (.cells #[.string ⟨#[]⟩,.string ⟨#[]⟩,.string ⟨#[]⟩,.string ⟨#[]⟩] 9)):=fun u=>by
  have h:=run_make (P:=Tryz.prog) u 22 9 i0 (.string ByteArray.empty) X.und_strs hi hz0 .i64 .i64 4 4 (by omega) (Int.le_refl _) (by rw[hz2];omega) (by omega)
  rw[hz1,show (4:Int).toNat=4 from rfl,made_rows]at h
  exact h
 have kA:=(Kept.refl w).alloc (.cells #[.string ⟨#[]⟩,.string ⟨#[]⟩,.string ⟨#[]⟩,.string ⟨#[]⟩] 9)
 have hA:=RowL.alloc 9 w [.string ⟨#[]⟩,.string ⟨#[]⟩,.string ⟨#[]⟩,.string ⟨#[]⟩]
 go_enter Tryz.func122,Tryz.ntmps122
 go_wp2_with fail
 refine(mul_4 _).mono ?_
 rintro e w1 ⟨rfl,rfl⟩
 go_upto_region 7 with fail
 generalize w1.alloc (.cells #[.string ⟨#[]⟩,.string ⟨#[]⟩,.string ⟨#[]⟩,.string ⟨#[]⟩] 9)=W at kA hA ⊢
 obtain⟨g,hg⟩:∃g,g=w1.heap.size:=⟨_,rfl⟩
 rw[<-hg]at hA ⊢
 have HG:=hid' (show w1.heap.size<=g by rw[hg];exact Nat.le_refl _)
 have hcp:=copy1 W g 0 4 4 q 0 1 ⟨#[48]⟩ _ ((Below.cell kA (p:=⟨q,0,none⟩) hq).trans h) (hA.cell 0 (.string ⟨#[]⟩)) (hA.fz 0) (by omega)
 have HI:=hid' (And.intro (kA.setCell (p:=⟨g,0,none⟩) HG.out (.string ⟨#[48]⟩)) (hA.set 0 (.string ⟨#[48]⟩)))
 clear kA hA hg h hmk
 go_wp2_with fail
 clear hcp
 generalize W.setCell ⟨g,0,none⟩ (.string ⟨#[48]⟩)=W1 at HI ⊢
 go_loopw [8] (fun v8 wr=>(v8=.int .i64 1/\Hid (Kept w1 wr/\RowL 9 wr g [.string ⟨#[48]⟩,.string ⟨#[]⟩,.string ⟨#[]⟩,.string ⟨#[]⟩]))∨(v8=.int .i64 2/\Hid (Kept w1 wr/\RowL 9 wr g [.string ⟨#[48]⟩,.string ⟨#[48]⟩,.string ⟨#[]⟩,.string ⟨#[]⟩]))∨(v8=.int .i64 4/\Hid (Kept w1 wr/\RowL 9 wr g [.string ⟨#[48]⟩,.string ⟨#[48]⟩,.string ⟨#[48]⟩,.string ⟨#[48]⟩]))) (fun v8 _=>4-(intOf v8).toNat)
 case atStart=>exact .inl ⟨rfl,HI.out⟩
 case round=>
  clear HI
  rcases hrel with ⟨rfl,H⟩|⟨rfl,H⟩|⟨rfl,H⟩
  ·go_upto_region 9 with fail
   have KT:Kept wr wr.drew:=(Kept.refl _).drew
   refine wp_region_held_drew (S:=fun _=>True) (by kernel_rfl) trivial (fun hHeld=>?_)
   generalize wr.drew=Wd at KT ⊢
   have hcp:=copy1 Wd g 1 3 3 g 0 4 ⟨#[48]⟩ _ ((H.out.2.kept KT).cell 0 _) ((H.out.2.kept KT).cell 1 (.string ⟨#[]⟩)) ((H.out.2.kept KT).fz 1) (by omega)
   have HN:=hid' (And.intro ((H.out.1.trans KT).setCell (p:=⟨g,1,none⟩) HG.out (.string ⟨#[48]⟩)) ((H.out.2.kept KT).set 1 (.string ⟨#[48]⟩)))
   refine tk 0 hHeld ?_
   refine tk 1 hHeld ?_
   refine tk 2 hHeld ?_
   refine tk 3 hHeld ?_
   refine tk 4 hHeld ?_
   refine tk 5 hHeld ?_
   refine tk 6 hHeld ?_
   refine rdy 7 fun K hK=>?_
   go_simp
   refine hK.out _ _ trivial (fun hHeld=>?_)
   clear hK K hcp KT H
   generalize Wd.setCell ⟨g,1,none⟩ (.string ⟨#[48]⟩)=Wn at HN ⊢
   refine tk 8 hHeld ?_
   refine tk 9 hHeld ?_
   refine dn ?_
   go_wp2_with fail
   go_roundw
   case rel=>exact .inr (.inl ⟨rfl,HN.out⟩)
   case measure=>decide
  ·go_upto_region 9 with fail
   have KT:Kept wr wr.drew:=(Kept.refl _).drew
   refine wp_region_held_drew (S:=fun _=>True) (by kernel_rfl) trivial (fun hHeld=>?_)
   generalize wr.drew=Wd at KT ⊢
   have hcp:=copy2 Wd g ⟨#[48]⟩ ⟨#[48]⟩ (.string ⟨#[]⟩) (.string ⟨#[]⟩) ((H.out.2.kept KT).cell 0 _) ((H.out.2.kept KT).cell 1 _) ((H.out.2.kept KT).cell 2 _) ((H.out.2.kept KT).cell 3 _) (H.out.2.kept KT).fz
   have HN:=hid' (And.intro (((H.out.1.trans KT).setCell (p:=⟨g,2,none⟩) HG.out (.string ⟨#[48]⟩)).setCell (p:=⟨g,3,none⟩) HG.out (.string ⟨#[48]⟩)) (((H.out.2.kept KT).set 2 (.string ⟨#[48]⟩)).set 3 (.string ⟨#[48]⟩)))
   refine tk 0 hHeld ?_
   refine tk 1 hHeld ?_
   refine tk 2 hHeld ?_
   refine tk 3 hHeld ?_
   refine tk 4 hHeld ?_
   refine tk 5 hHeld ?_
   refine tk 6 hHeld ?_
   refine rdy 7 fun K hK=>?_
   go_simp
   refine hK.out _ _ trivial (fun hHeld=>?_)
   clear hK K hcp KT H
   generalize (Wd.setCell ⟨g,2,none⟩ (.string ⟨#[48]⟩)).setCell ⟨g,3,none⟩ (.string ⟨#[48]⟩)=Wn at HN ⊢
   refine tk 8 hHeld ?_
   refine tk 9 hHeld ?_
   refine dn ?_
   go_wp2_with fail
   go_roundw
   case rel=>exact .inr (.inr ⟨rfl,HN.out⟩)
   case measure=>decide
  ·go_wp2_with fail
   go_ret
   exact⟨H.out.1,g,rfl,H.out.2,HG.out⟩
theorem grounds_4 (w:World):Calls Tryz.prog 82 #[.int .i64 4] w fun e w'=>Kept w w'/\∃g,e=.returned (.slice (some ⟨g,0,none⟩) 4 4)/\RowL 9 w' g [.string ⟨#[48]⟩,.string ⟨#[48]⟩,.string ⟨#[48]⟩,.string ⟨#[48]⟩]/\w.heap.size<=g:=by
 have kA:=(Kept.refl w).alloc (.cells #[.string ⟨#[48]⟩] 9)
 have hA:=RowL.alloc 9 w [.string ⟨#[48]⟩]
 have hR:=repeat_4 w.heap.size _ (hA.cell 0 _) hA.lt
 clear hA
 go_enter Tryz.func82,Tryz.ntmps82
 go_wp2_with fail
 refine hR.mono ?_
 rintro e w1 ⟨hk,g,rfl,hr,hg⟩
 have H:=hid' (And.intro (kA.trans hk) (And.intro hr (Nat.le_trans kA.size hg)))
 clear kA hk hr hR hg
 go_wp2_with fail
 go_ret
 exact⟨H.out.1,g,rfl,H.out.2.1,H.out.2.2⟩
theorem row_rs2 {w:World}{g:Nat}(h:RowL 9 w g [.string ⟨#[48]⟩,.string ⟨#[48]⟩]):RS w (.slice (some ⟨g,0,none⟩) 2 2) [[48],[48]]:=by
 refine⟨some ⟨g,0,none⟩,2,rfl,fun _=>⟨g,0,rfl,h.lt,fun j hj=>?_⟩⟩
 match j,hj with
 |0,_=>exact h.cell 0 _
 |1,_=>exact h.cell 1 _
theorem row_rs4 {w:World}{g:Nat}(h:RowL 9 w g [.string ⟨#[48]⟩,.string ⟨#[48]⟩,.string ⟨#[48]⟩,.string ⟨#[48]⟩]):RS w (.slice (some ⟨g,0,none⟩) 4 4) [[48],[48],[48],[48]]:=by
 refine⟨some ⟨g,0,none⟩,4,rfl,fun _=>⟨g,0,rfl,h.lt,fun j hj=>?_⟩⟩
 match j,hj with
 |0,_=>exact h.cell 0 _
 |1,_=>exact h.cell 1 _
 |2,_=>exact h.cell 2 _
 |3,_=>exact h.cell 3 _
end V
end Go.Proofs.YtdjhmgmjiglcbaaGreatDoor

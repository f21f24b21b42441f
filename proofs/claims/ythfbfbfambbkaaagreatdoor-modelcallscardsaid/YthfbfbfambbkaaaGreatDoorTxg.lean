/- Text, of every right whole number. -/
import Derived.Test.YthfbfbfambbkaaaGreatDoorDec
import Derived.Test.YthfbfbfambbkaaaGreatDoorShelf
import Derived.Test.YthfbfbfambbkaaaGreatDoorGad
namespace Go.Proofs.YthfbfbfambbkaaaGreatDoor
open Go.RowKit
def Tab (w : World) : Prop := Lib.TabIs Tryz.prog w "internal/strconv.uint64pow10" .u64 Lib.pow10Tab
theorem Tab.kept {w w':World} (h:Tab w) (k:Kept w w'):Tab w':=Lib.tabBelow_of_tabIs h w' k
set_option maxHeartbeats 1000000 in
theorem appendUint_any (B n u:Nat) (hu:u < 1000000000) (v:Value) (xs:List Value) (w:World) (ht:Tab w) (hown:w.ownsRow B 5 1 v n xs) (hB:B<=w.heap.size) (hn:n<=1000) :
  Calls Tryz.prog 68 #[v,.int .u64 (u:Int),.int .i64 10] w fun e w' => Below B w w'/\Lib.OthersKept 5 none w w'/\∃ v',e = .returned v'/\w'.ownsRow B 5 1 v' (n + (Lib.decDigits u).length) (xs ++ Lib.byteCells (Lib.decDigits u)):=by
 have H:Hid (Calls Tryz.prog 111 #[v,.int .u64 (u:Int),.int .i64 10] w fun e w' => ∃ v',e = .returned v'/\w'.ownsRow B 5 1 v' (n + (Lib.decDigits u).length) (xs ++ Lib.byteCells (Lib.decDigits u))/\Below B w w'/\Lib.OthersKept 5 none w w'):=by
  by_cases h:u < 100
  ·
   exact Tryz.internal_strconv_AppendUint_10_small B n u h v xs w hown hB (by omega)
  ·
   exact Tryz.internal_strconv_AppendUint_10_big B n u (by omega) (by omega) v xs w hown hB (by omega) ht
 clear ht hown
 go_enter Tryz.func68,Tryz.ntmps68
 go_wp2_with fail
 refine H.out.mono ?_
 rintro e w1 ⟨v',rfl,ho,hb,hk⟩
 have HO:Hid (Below B w w1/\Lib.OthersKept 5 none w w1/\w1.ownsRow B 5 1 v' (n + (Lib.decDigits u).length) (xs ++ Lib.byteCells (Lib.decDigits u))):=⟨hb,hk,ho⟩
 clear ho hb hk H
 go_wp2
 go_ret
 exact ⟨HO.out.1,HO.out.2.1,v',rfl,HO.out.2.2⟩
def txt (gs:List Nat):List UInt8:=match gs with
 | [] => []
 | [g] => Lib.decDigits g
 | g :: l => txt l ++ grp g
theorem txt_cons (g h:Nat) (l:List Nat):txt (g :: h :: l) = txt (h :: l) ++ grp g:=rfl
theorem txt_spec:∀ (gs:List Nat),0 < gs.length->(∀ x ∈ gs,x < 1000000000)->gs.getD (gs.length - 1) 0 ≠ 0->NZ (txt gs)/\dv (txt gs) = val9 gs
 | [],h,_,_ => by simp at h
 | [g],_,_,hl => by
  simp at hl
  exact ⟨dec_nz g (by omega),by rw [txt,dec_dv]; simp [val9]⟩
 | g :: h :: l,_,hb,hl => by
  obtain ⟨h1,h2⟩:=txt_spec (h :: l) (by simp) (fun x hx => hb x (List.mem_cons_of_mem _ hx)) (by simpa using hl)
  rw [txt_cons]
  refine ⟨h1.append (grp_dig g),?_⟩
  rw [dv_append,grp_len,h2,grp_dv g (hb g (by simp))]
  simp only [val9]; omega
theorem nz_len {l:List UInt8} (h:NZ l):10 ^ (l.length - 1)<=dv l:=by
 obtain ⟨x,t,rfl⟩:=List.exists_cons_of_ne_nil h.ne
 have h1:=h.head x rfl
 have h2:=h.dig x (by simp)
 have e:dv (x :: t) = dv [x] * 10 ^ t.length + dv t:=dv_append [x] t
 have e2:dv [x] = x.toNat - 48:=by show 0 * 10 + _ = _; omega
 rw [e,e2]
 have h4:=Nat.mul_le_mul_right (10 ^ t.length) (show 1<=x.toNat - 48 by omega)
 simp only [List.length_cons,Nat.add_sub_cancel]
 omega
theorem dec_len {u:Nat} (h:u < 1000000000):(Lib.decDigits u).length<=9:=by
 by_cases h0:u = 0
 ·
  subst h0; rw [Lib.decDigits,dif_pos (by omega)]; simp
 ·
  have h1:=nz_len (dec_nz u (by omega))
  rw [dec_dv] at h1
  have h2:10 ^ ((Lib.decDigits u).length - 1) < 10 ^ 9:=by omega
  have:=(Nat.pow_lt_pow_iff_right (a:=10) (by decide)).1 h2
  omega
theorem txt_len:∀ (gs:List Nat),(∀ x ∈ gs,x < 1000000000)->(txt gs).length<=9 * gs.length
 | [],_ => by simp [txt]
 | [g],hb => by have:=dec_len (hb g (by simp)); simpa [txt] using this
 | g :: h :: l,hb => by
  have h1:=txt_len (h :: l) (fun x hx => hb x (List.mem_cons_of_mem _ hx))
  rw [txt_cons,List.length_append,grp_len]
  simp only [List.length_cons] at h1 ⊢
  omega
theorem str_bytes (D:List UInt8):strOfNums (D.map fun b => (b.toNat:Int)) = ⟨D.toArray⟩:=by
 unfold strOfNums
 rw [List.map_map]
 congr 2
 rw [show ((fun n:Int => UInt8.ofNat n.toNat) ∘ fun b:UInt8 => (b.toNat:Int)) = id from funext fun b => by simp]
 simp
theorem conv_owns {B:Nat} {w:World} {g cp:Nat} {D:List UInt8} (h:w.ownsRow B 5 1 (.slice (some ⟨g,0,none⟩) D.length cp) D.length (Lib.byteCells D)) :
  (convert 105 9 (.slice (some ⟨g,0,none⟩) D.length cp)).run Tryz.prog w = .ok (.string ⟨D.toArray⟩) w:=by
 have h1:=run_convert_bytes_arg (P:=Tryz.prog) w 105 5 Tryz.underlying105 Tryz.underlying5 g 0 D.length cp (D.map fun b => (b.toNat:Int)) (by simp) (fun i hi => by
  rw [Nat.zero_add,h.cellAt i (by omega),Lib.byteCells,List.getElem?_map,List.getElem?_eq_getElem hi,List.getD_eq_getElem?_getD,List.getElem?_map,List.getElem?_eq_getElem hi]; rfl) 9 Tryz.underlying9
 rw [str_bytes] at h1
 exact h1
theorem drop_pred' (gs:List Nat) (k:Nat) (h0:0 < k) (hk:k < gs.length):gs.drop (k - 1) = gs.getD (k - 1) 0 :: gs.drop k:=by
 rw [List.drop_eq_getElem_cons (i:=k - 1) (by omega),show k - 1 + 1 = k by omega,List.getD_eq_getElem?_getD,List.getElem?_eq_getElem (by omega)]; rfl
theorem txt_drop (gs:List Nat) (k:Nat) (h0:0 < k) (hk:k < gs.length):txt (gs.drop (k - 1)) = txt (gs.drop k) ++ grp (gs.getD (k - 1) 0):=by
 rw [drop_pred' gs k h0 hk]
 have hne:gs.drop k ≠ []:=by intro e; have:=congrArg List.length e; simp at this; omega
 obtain ⟨x,t,hx⟩:=List.exists_cons_of_ne_nil hne
 rw [hx,txt_cons]
theorem txt_last (gs:List Nat) (h0:0 < gs.length):txt (gs.drop (gs.length - 1)) = Lib.decDigits (gs.getD (gs.length - 1) 0):=by
 rw [List.drop_eq_getElem_cons (i:=gs.length - 1) (by omega),List.drop_of_length_le (by omega),List.getD_eq_getElem?_getD,List.getElem?_eq_getElem (by omega)]; rfl
theorem bs_bytes (D:List UInt8):bs (D.map UInt8.toNat) = Lib.byteCells D:=by unfold bs Lib.byteCells; rw [List.map_map]; rfl
set_option maxRecDepth 100000 in
set_option maxHeartbeats 2000000 in
theorem text_pos (v:Value) (l:List Nat) (w:World) (h:Sl w v l) (hr:R false l) (h0:0 < l.length) (ht:Tab w) :
  Calls Tryz.prog 30 #[.agg #[.bool false,v]] w fun e w' => Kept w w'/\∃ D:List UInt8,NZ D/\dv D = M.val l/\e = .returned (.tuple #[.string ⟨(([]:List UInt8) ++ D).toArray⟩,.int .i64 0]):=by
 have HS:Hid (Sl w v l):=h
 have HR:Hid (R false l):=hr
 have HT:Hid (Tab w):=ht
 have hl72:=hr.1
 obtain ⟨bdl,ao,cap,rfl,_⟩:=h
 clear hr ht
 go_enter Tryz.func30,Tryz.ntmps30
 go_wp2_with fail
 refine (check_yes false _ l _ (HS.out.kept ((Kept.refl w).alloc _)) HR.out).mono ?_
 rintro e w1 ⟨rfl,hk1⟩
 obtain ⟨hb0,hb1⟩:=box_kept hk1
 have HK1:Hid (Kept w w1):=((Kept.refl w).alloc _).trans hk1
 clear hk1
 have HOT:Hid (w1.ownsRow w1.heap.size 5 1 (.slice none 0 0) 0 (Lib.byteCells [])):=World.ownsRow_nil _ _ _ _
 have HKT:Hid (Kept w1 w1):=Kept.refl w1
 go_wp2_with fail
 refine (groups_any w1 (HS.out.kept (HK1.out.trans HKT.out)) HR.out.tr h0 (by omega)).mono ?_
 rintro e w2 ⟨hk2,vg,gs,rfl,hng,hg0,hgb,hgl,hgv,hglen⟩
 obtain ⟨bg,Ng,fg,rfl,hBg,hNg,hrg,hfg⟩:∃ (b N:Nat) (f:Nat->Value),vg = .slice (some ⟨b,0,none⟩) gs.length N/\(w1).heap.size<=b/\gs.length<=N/\w2.rowIs b 66 N f/\∀ j,j < gs.length->f j = .int .u32 ((gs.getD j 0:Nat):Int):=by
  obtain ⟨_,⟨_,h⟩ | h⟩:=hng
  ·
   rw [h] at hg0; simp at hg0
  ·
   exact h
 have HG:Hid (∀ W,Lib.OthersKept 5 none w2 W->∀ j,j < gs.length->W.cell? ⟨bg,j,none⟩ = some (.int .u32 ((gs.getD j 0:Nat):Int))):=fun W hW j hj => by
  obtain ⟨c,hc,hn,hcc⟩:=hrg
  have:=hW bg _ hc (by simp) (by intro c' fz e; cases e)
  have hr':W.rowIs bg 66 Ng fg:=⟨c,this,hn,hcc⟩
  rw [hr'.cell (by omega),hfg j hj]
 have HN:Hid ((∀ x ∈ gs,x < 1000000000)/\gs.getD (gs.length - 1) 0 ≠ 0/\val9 gs = M.val l):=⟨hgb,hgl,hgv⟩
 have HK2:Hid (Kept w w2/\Kept w1 w2):=⟨(HK1.out.trans HKT.out).trans hk2,HKT.out.trans hk2⟩
 have HOT2:Hid (w2.ownsRow w1.heap.size 5 1 (.slice none 0 0) 0 (Lib.byteCells ([]:List UInt8))):=HOT.out.kept (row:=none) ⟨hk2.os,hk2.tape,hk2.output,hk2.size,fun k hk _ => hk2.block k hk⟩ (by cases Value.ownBlock (.slice none 0 0) <;> simp)
 clear hk2 hng hgb hgl hgv hrg hfg hBg hb0 hb1 HOT
 have hcl:=HG.out w2 (Lib.OthersKept.refl _ _ _) (gs.length - 1) (by omega)
 have hub:gs.getD (gs.length - 1) 0 < 1000000000:=by
  rw [List.getD_eq_getElem?_getD,List.getElem?_eq_getElem (by omega)]; exact HN.out.1 _ (List.getElem_mem _)
 obtain ⟨u,hu⟩:∃ u,u = gs.getD (gs.length - 1) 0:=⟨_,rfl⟩
 rw [<- hu] at hcl hub
 have HU:Hid (u = gs.getD (gs.length - 1) 0):=hu
 obtain ⟨q,hq⟩:∃ q,q = gs.length:=⟨_,rfl⟩
 rw [<- hq] at hcl hg0 hglen hNg HG HU ⊢
 have HQ:Hid (q = gs.length):=hq
 clear hu hq
 go_wp2_with fail
 refine (appendUint_any w1.heap.size 0 u hub _ (Lib.byteCells ([]:List UInt8)) w2 (HT.out.kept HK2.out.1) HOT2.out HK2.out.2.size (by omega)).mono ?_
 rintro e w3 ⟨hb3,ho3,vt3,rfl,hown3⟩
 have H3:Hid (Below w1.heap.size w2 w3/\Lib.OthersKept 5 none w2 w3/\w3.ownsRow w1.heap.size 5 1 vt3 (([]:List UInt8) ++ txt (gs.drop (q - 1))).length (Lib.byteCells (([]:List UInt8) ++ txt (gs.drop (q - 1))))):=by
  refine ⟨hb3,ho3,?_⟩
  rw [HQ.out,txt_last gs (by rw [<- HQ.out]; exact hg0),byteCells_append,List.length_append,<- HQ.out,<- HU.out]
  exact hown3
 clear hb3 ho3 hown3 hcl
 go_wp2
 go_loopw [4,7] (fun vx vi wr => ∃ k:Nat,k + 1<=q/\vi = .int .i64 ((k:Int) - 1)/\Hid (wr.ownsRow w1.heap.size 5 1 vx (([]:List UInt8) ++ txt (gs.drop k)).length (Lib.byteCells (([]:List UInt8) ++ txt (gs.drop k))))/\Hid (Below w1.heap.size w2 wr/\Lib.OthersKept 5 none w2 wr)) (fun _ vi _ => (intOf vi + 1).toNat)
 case atStart => exact ⟨q - 1,by omega,by go_num,H3.out.2.2,H3.out.1,H3.out.2.1⟩
 case round =>
  obtain ⟨k,hk,rfl,hown,hkept⟩:=hrel
  by_cases hk0:k = 0
  ·
   subst hk0
   have hsp:=txt_spec gs (by rw [<- HQ.out]; exact hg0) HN.out.1 HN.out.2.1
   rw [List.drop_zero] at hown
   have hpos:0 < (([]:List UInt8) ++ txt gs).length:=by rw [List.length_append]; have:=List.length_pos_iff.2 hsp.1.ne; omega
   obtain ⟨D,hD⟩:∃ D,D = ([]:List UInt8) ++ txt gs:=⟨_,rfl⟩
   rw [<- hD] at hown hpos
   obtain ⟨g,cp,hv⟩:=owns_shape hown.out hpos
   subst hv
   have hconv:=conv_owns hown.out
   have HSP:Hid (NZ (txt gs)/\dv (txt gs) = val9 gs):=hsp
   have HD:Hid (D = ([]:List UInt8) ++ txt gs):=hD
   clear hsp hD
   go_wp2
   go_ret2
   refine ⟨Below.trans HK2.out.1 (hkept.out.1.mono HK1.out.size),txt gs,HSP.out.1,by rw [HSP.out.2,HN.out.2.2],?_⟩
   have hD:=HD.out
   subst hD
   rfl
  ·
   have hcg:=HG.out wr hkept.out.2 (k - 1) (by omega)
   have hgb:gs.getD (k - 1) 0 < 1000000000:=by
    rw [List.getD_eq_getElem?_getD,List.getElem?_eq_getElem (by rw [<- HQ.out]; omega)]; exact HN.out.1 _ (List.getElem_mem _)
   have hlen:(([]:List UInt8) ++ txt (gs.drop k)).length<=100000:=by
    have h1:=txt_len (gs.drop k) (fun x hx => HN.out.1 x (List.mem_of_mem_drop hx))
    rw [List.length_drop,<- HQ.out] at h1
    simp only [List.length_append,List.length_nil]
    omega
   have hown':wr.ownsRow w1.heap.size 5 1 u4 (([]:List UInt8) ++ txt (gs.drop k)).length (bs ((([]:List UInt8) ++ txt (gs.drop k)).map UInt8.toNat)):=by rw [bs_bytes]; exact hown.out
   have hcall:=group_any w1.heap.size u4 _ _ (gs.getD (k - 1) 0) wr hgb hown' hlen (Nat.le_trans HK2.out.2.size hkept.out.1.size)
   obtain ⟨gx,hgx⟩:∃ gx,gx = gs.getD (k - 1) 0:=⟨_,rfl⟩
   rw [<- hgx] at hcg hgb hcall
   have HC:Hid (Calls Tryz.prog 69 #[u4,.int .u32 (gx:Int)] wr fun e w' => Below w1.heap.size wr w'/\Lib.OthersKept 5 none wr w'/\∃ v',e = .returned v'/\w'.ownsRow w1.heap.size 5 1 v' ((([]:List UInt8) ++ txt (gs.drop k)).length + 9) (bs ((([]:List UInt8) ++ txt (gs.drop k)).map UInt8.toNat ++ dg gx 9))):=hcall
   have HGX:Hid (gx = gs.getD (k - 1) 0):=hgx
   have h1k:1<=k:=by omega
   clear hcall hown' hgx hlen
   go_wp2_with fail
   refine HC.out.mono ?_
   rintro e w4 ⟨hb4,ho4,v',rfl,hown4⟩
   have H4:Hid (w4.ownsRow w1.heap.size 5 1 v' (([]:List UInt8) ++ txt (gs.drop (k - 1))).length (Lib.byteCells (([]:List UInt8) ++ txt (gs.drop (k - 1))))/\Below w1.heap.size w2 w4/\Lib.OthersKept 5 none w2 w4):=by
    refine ⟨?_,Below.trans hkept.out.1 hb4,hkept.out.2.trans ho4⟩
    rw [txt_drop gs k h1k (by rw [<- HQ.out]; omega),<- HGX.out,<- List.append_assoc,byteCells_append,List.length_append,grp_len]
    rw [bs_append,bs_bytes,bs_grp] at hown4
    exact hown4
   clear hb4 ho4 hown4 HC
   go_wp2
   go_roundw
   case rel => exact ⟨k - 1,by omega,by go_num,H4.out.1,H4.out.2⟩
   case measure => simp [intOf]; omega
set_option maxRecDepth 100000 in
set_option maxHeartbeats 2000000 in
theorem text_neg (v:Value) (l:List Nat) (w:World) (h:Sl w v l) (hr:R true l) (h0:0 < l.length) (ht:Tab w) :
  Calls Tryz.prog 30 #[.agg #[.bool true,v]] w fun e w' => Kept w w'/\∃ D:List UInt8,NZ D/\dv D = M.val l/\e = .returned (.tuple #[.string ⟨([45] ++ D).toArray⟩,.int .i64 0]):=by
 have HS:Hid (Sl w v l):=h
 have HR:Hid (R true l):=hr
 have HT:Hid (Tab w):=ht
 have hl72:=hr.1
 obtain ⟨bdl,ao,cap,rfl,_⟩:=h
 clear hr ht
 go_enter Tryz.func30,Tryz.ntmps30
 go_wp2_with fail
 refine (check_yes true _ l _ (HS.out.kept ((Kept.refl w).alloc _)) HR.out).mono ?_
 rintro e w1 ⟨rfl,hk1⟩
 obtain ⟨hb0,hb1⟩:=box_kept hk1
 have HK1:Hid (Kept w w1):=((Kept.refl w).alloc _).trans hk1
 clear hk1
 obtain ⟨i0,hi,hz0,hz1,hz2⟩:=info_parts Tryz.info5
 have hmx:1<=maxLen:=by unfold maxLen; omega
 go_wp2_with (at_builtin; refine wpList_append_own _ rfl _ _ 105 rfl w1.heap.size 5 i0 (.int .u8 0) 1 1 Tryz.underlying105 hi hz0 hz1 hz2 rfl (by decide) _ _ _ rfl (World.ownsRow_nil _ _ _ _) ⟨w1.heap.size,0,none⟩ 1 1 [.int .u8 45] rfl rfl (cell_new w1 _ _) (fun x hx => by simp at hx; subst hx; rfl) (by omega) (by omega) (by simp) ?_)
 intro vt wt hownt hgrowt _
 have HOT:Hid (wt.ownsRow w1.heap.size 5 1 vt 1 (Lib.byteCells [45])):=hownt
 have HKT:Hid (Kept w1 wt):=Below.grown ((Kept.refl w1).alloc _) hgrowt (by simp) (fun k hk => by simp [Value.ownBlock] at hk)
 have hb0:=cell_kept HKT.out hb0
 have hb1:=cell_kept HKT.out hb1
 clear hownt hgrowt hi hz0 hz1 hz2 hmx
 go_wp2_with fail
 refine (groups_any wt (HS.out.kept (HK1.out.trans HKT.out)) HR.out.tr h0 (by omega)).mono ?_
 rintro e w2 ⟨hk2,vg,gs,rfl,hng,hg0,hgb,hgl,hgv,hglen⟩
 obtain ⟨bg,Ng,fg,rfl,hBg,hNg,hrg,hfg⟩:∃ (b N:Nat) (f:Nat->Value),vg = .slice (some ⟨b,0,none⟩) gs.length N/\(wt).heap.size<=b/\gs.length<=N/\w2.rowIs b 66 N f/\∀ j,j < gs.length->f j = .int .u32 ((gs.getD j 0:Nat):Int):=by
  obtain ⟨_,⟨_,h⟩ | h⟩:=hng
  ·
   rw [h] at hg0; simp at hg0
  ·
   exact h
 have HG:Hid (∀ W,Lib.OthersKept 5 none w2 W->∀ j,j < gs.length->W.cell? ⟨bg,j,none⟩ = some (.int .u32 ((gs.getD j 0:Nat):Int))):=fun W hW j hj => by
  obtain ⟨c,hc,hn,hcc⟩:=hrg
  have:=hW bg _ hc (by simp) (by intro c' fz e; cases e)
  have hr':W.rowIs bg 66 Ng fg:=⟨c,this,hn,hcc⟩
  rw [hr'.cell (by omega),hfg j hj]
 have HN:Hid ((∀ x ∈ gs,x < 1000000000)/\gs.getD (gs.length - 1) 0 ≠ 0/\val9 gs = M.val l):=⟨hgb,hgl,hgv⟩
 have HK2:Hid (Kept w w2/\Kept w1 w2):=⟨(HK1.out.trans HKT.out).trans hk2,HKT.out.trans hk2⟩
 have HOT2:Hid (w2.ownsRow w1.heap.size 5 1 vt 1 (Lib.byteCells [45])):=HOT.out.kept (row:=none) ⟨hk2.os,hk2.tape,hk2.output,hk2.size,fun k hk _ => hk2.block k hk⟩ (by cases Value.ownBlock vt <;> simp)
 clear hk2 hng hgb hgl hgv hrg hfg hBg hb0 hb1 HOT
 have hcl:=HG.out w2 (Lib.OthersKept.refl _ _ _) (gs.length - 1) (by omega)
 have hub:gs.getD (gs.length - 1) 0 < 1000000000:=by
  rw [List.getD_eq_getElem?_getD,List.getElem?_eq_getElem (by omega)]; exact HN.out.1 _ (List.getElem_mem _)
 obtain ⟨u,hu⟩:∃ u,u = gs.getD (gs.length - 1) 0:=⟨_,rfl⟩
 rw [<- hu] at hcl hub
 have HU:Hid (u = gs.getD (gs.length - 1) 0):=hu
 obtain ⟨q,hq⟩:∃ q,q = gs.length:=⟨_,rfl⟩
 rw [<- hq] at hcl hg0 hglen hNg HG HU ⊢
 have HQ:Hid (q = gs.length):=hq
 clear hu hq
 go_wp2_with fail
 refine (appendUint_any w1.heap.size 1 u hub _ (Lib.byteCells [45]) w2 (HT.out.kept HK2.out.1) HOT2.out HK2.out.2.size (by omega)).mono ?_
 rintro e w3 ⟨hb3,ho3,vt3,rfl,hown3⟩
 have H3:Hid (Below w1.heap.size w2 w3/\Lib.OthersKept 5 none w2 w3/\w3.ownsRow w1.heap.size 5 1 vt3 ([45] ++ txt (gs.drop (q - 1))).length (Lib.byteCells ([45] ++ txt (gs.drop (q - 1))))):=by
  refine ⟨hb3,ho3,?_⟩
  rw [HQ.out,txt_last gs (by rw [<- HQ.out]; exact hg0),byteCells_append,List.length_append,<- HQ.out,<- HU.out]
  exact hown3
 clear hb3 ho3 hown3 hcl
 go_wp2
 go_loopw [4,7] (fun vx vi wr => ∃ k:Nat,k + 1<=q/\vi = .int .i64 ((k:Int) - 1)/\Hid (wr.ownsRow w1.heap.size 5 1 vx ([45] ++ txt (gs.drop k)).length (Lib.byteCells ([45] ++ txt (gs.drop k))))/\Hid (Below w1.heap.size w2 wr/\Lib.OthersKept 5 none w2 wr)) (fun _ vi _ => (intOf vi + 1).toNat)
 case atStart => exact ⟨q - 1,by omega,by go_num,H3.out.2.2,H3.out.1,H3.out.2.1⟩
 case round =>
  obtain ⟨k,hk,rfl,hown,hkept⟩:=hrel
  by_cases hk0:k = 0
  ·
   subst hk0
   have hsp:=txt_spec gs (by rw [<- HQ.out]; exact hg0) HN.out.1 HN.out.2.1
   rw [List.drop_zero] at hown
   have hpos:0 < ([45] ++ txt gs).length:=by rw [List.length_append]; have:=List.length_pos_iff.2 hsp.1.ne; omega
   obtain ⟨D,hD⟩:∃ D,D = [45] ++ txt gs:=⟨_,rfl⟩
   rw [<- hD] at hown hpos
   obtain ⟨g,cp,hv⟩:=owns_shape hown.out hpos
   subst hv
   have hconv:=conv_owns hown.out
   have HSP:Hid (NZ (txt gs)/\dv (txt gs) = val9 gs):=hsp
   have HD:Hid (D = [45] ++ txt gs):=hD
   clear hsp hD
   go_wp2
   go_ret2
   refine ⟨Below.trans HK2.out.1 (hkept.out.1.mono HK1.out.size),txt gs,HSP.out.1,by rw [HSP.out.2,HN.out.2.2],?_⟩
   have hD:=HD.out
   subst hD
   rfl
  ·
   have hcg:=HG.out wr hkept.out.2 (k - 1) (by omega)
   have hgb:gs.getD (k - 1) 0 < 1000000000:=by
    rw [List.getD_eq_getElem?_getD,List.getElem?_eq_getElem (by rw [<- HQ.out]; omega)]; exact HN.out.1 _ (List.getElem_mem _)
   have hlen:([45] ++ txt (gs.drop k)).length<=100000:=by
    have h1:=txt_len (gs.drop k) (fun x hx => HN.out.1 x (List.mem_of_mem_drop hx))
    rw [List.length_drop,<- HQ.out] at h1
    simp only [List.length_append,List.length_cons,List.length_nil]
    omega
   have hown':wr.ownsRow w1.heap.size 5 1 u4 ([45] ++ txt (gs.drop k)).length (bs (([45] ++ txt (gs.drop k)).map UInt8.toNat)):=by rw [bs_bytes]; exact hown.out
   have hcall:=group_any w1.heap.size u4 _ _ (gs.getD (k - 1) 0) wr hgb hown' hlen (Nat.le_trans HK2.out.2.size hkept.out.1.size)
   obtain ⟨gx,hgx⟩:∃ gx,gx = gs.getD (k - 1) 0:=⟨_,rfl⟩
   rw [<- hgx] at hcg hgb hcall
   have HC:Hid (Calls Tryz.prog 69 #[u4,.int .u32 (gx:Int)] wr fun e w' => Below w1.heap.size wr w'/\Lib.OthersKept 5 none wr w'/\∃ v',e = .returned v'/\w'.ownsRow w1.heap.size 5 1 v' (([45] ++ txt (gs.drop k)).length + 9) (bs (([45] ++ txt (gs.drop k)).map UInt8.toNat ++ dg gx 9))):=hcall
   have HGX:Hid (gx = gs.getD (k - 1) 0):=hgx
   have h1k:1<=k:=by omega
   clear hcall hown' hgx hlen
   go_wp2_with fail
   refine HC.out.mono ?_
   rintro e w4 ⟨hb4,ho4,v',rfl,hown4⟩
   have H4:Hid (w4.ownsRow w1.heap.size 5 1 v' ([45] ++ txt (gs.drop (k - 1))).length (Lib.byteCells ([45] ++ txt (gs.drop (k - 1))))/\Below w1.heap.size w2 w4/\Lib.OthersKept 5 none w2 w4):=by
    refine ⟨?_,Below.trans hkept.out.1 hb4,hkept.out.2.trans ho4⟩
    rw [txt_drop gs k h1k (by rw [<- HQ.out]; omega),<- HGX.out,<- List.append_assoc,byteCells_append,List.length_append,grp_len]
    rw [bs_append,bs_bytes,bs_grp] at hown4
    exact hown4
   clear hb4 ho4 hown4 HC
   go_wp2
   go_roundw
   case rel => exact ⟨k - 1,by omega,by go_num,H4.out.1,H4.out.2⟩
   case measure => simp [intOf]; omega
set_option maxRecDepth 100000 in
set_option maxHeartbeats 1000000 in
theorem text_zero (v:Value) (w:World) (h:Sl w v []) :
  Calls Tryz.prog 30 #[.agg #[.bool false,v]] w fun e w' => Kept w w'/\e = .returned (.tuple #[.string ⟨#[48]⟩,.int .i64 0]):=by
 have HS:Hid (Sl w v []):=h
 obtain ⟨bdl,ao,cap,rfl,_⟩:=h
 go_enter Tryz.func30,Tryz.ntmps30
 go_wp2_with fail
 refine (check_yes false _ [] _ (HS.out.kept ((Kept.refl w).alloc _)) ⟨by simp,fun _ => rfl,fun h => by simp at h⟩).mono ?_
 rintro e w1 ⟨rfl,hk1⟩
 obtain ⟨hb0,hb1⟩:=box_kept hk1
 have HK1:Hid (Kept w w1):=((Kept.refl w).alloc _).trans hk1
 clear hk1
 go_wp2
 go_ret2
 exact ⟨HK1.out,rfl⟩
def tx (m:Bool) (D:List UInt8):List UInt8:=if m then 45 :: D else D
theorem text_any (m:Bool) (v:Value) (l:List Nat) (w:World) (h:Sl w v l) (hr:R m l) (ht:Tab w) :
  Calls Tryz.prog 30 #[.agg #[.bool m,v]] w fun e w' => Kept w w'/\∃ D:List UInt8,Plain D/\(m = true->NZ D)/\dv D = M.val l/\e = .returned (.tuple #[.string ⟨(tx m D).toArray⟩,.int .i64 0]):=by
 by_cases h0:l.length = 0
 ·
  have e:=List.length_eq_zero_iff.1 h0
  subst e
  have hm:=hr.2.1 rfl
  subst hm
  refine (text_zero v w h).mono ?_
  rintro e w' ⟨hk,rfl⟩
  exact ⟨hk,[48],.inl rfl,(fun h => by cases h),rfl,rfl⟩
 ·
  cases m
  ·
   refine (text_pos v l w h hr (by omega) ht).mono ?_
   rintro e w' ⟨hk,D,h1,h2,rfl⟩
   exact ⟨hk,D,.inr h1,(fun h => by cases h),h2,rfl⟩
  ·
   refine (text_neg v l w h hr (by omega) ht).mono ?_
   rintro e w' ⟨hk,D,h1,h2,rfl⟩
   exact ⟨hk,D,.inr h1,(fun _ => h1),h2,rfl⟩
end Go.Proofs.YthfbfbfambbkaaaGreatDoor

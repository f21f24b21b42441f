/- Lemmas. -/
import Derived.Test.YtdjhmgmjiglcbaaGreatDoorGat
import Derived.Test.YtdjhmgmjiglcbaaGreatDoorGal
import Derived.Test.YtdjhmgmjiglcbaaGreatDoorGav
import Derived.Test.YtdjhmgmjiglcbaaGreatDoorGao
set_option maxRecDepth 100000
set_option maxHeartbeats 8000000
namespace Go.Proofs.YtdjhmgmjiglcbaaGreatDoor
open Go.RowKit
namespace Q
theorem pref_one (L:List UInt8)(c:UInt8):Lib.hasPrefix L [c]=hd c L:=by
  cases L with
  |nil=>simp[Lib.hasPrefix,hd]
  |cons a t=>
    simp only[Lib.hasPrefix,List.isPrefixOf,hd_cons]
    by_cases h:a=c
    · subst h;simp
    · have:¬c=a:=fun e=>h e.symm
      simp[h,this]
theorem trim_one (L:List UInt8)(c:UInt8):Lib.trimPrefix L [c]=cutB c L:=by
  unfold Lib.trimPrefix cutB
  rw[pref_one]
  cases L <;> rfl
theorem atoi_dig {D:List UInt8}(h:Dig D)(hne:D≠[]):Lib.atoi D=some (dv D:Int):=by
  have key:∀(l:List UInt8) (n:Nat),Dig l->Lib.decFrom n l=some (dvF n l):=by
    intro l
    induction l with
    |nil=>intro n _;rfl
    |cons a t ih=>
      intro n hd
      have h1:=hd a (by simp)
      show (match Lib.digitVal a with|some d=>Lib.decFrom (n*10+d) t|none=>none)=_
      rw[show Lib.digitVal a=some (a.toNat-48) by unfold Lib.digitVal;rw[if_pos h1]]
      exact ih _ (fun c hc=>hd c (by simp[hc]))
  obtain⟨a,t,rfl⟩:=List.exists_cons_of_ne_nil hne
  have h1:=h a (by simp)
  have e1:(a == 45)=false:=by
    rw[beq_eq_false_iff_ne];intro e;subst e;revert h1;decide
  have e2:(a == 43)=false:=by
    rw[beq_eq_false_iff_ne];intro e;subst e;revert h1;decide
  simp only[Lib.atoi,e1,e2,Bool.false_eq_true,if_false]
  unfold Lib.decNat
  rw[if_neg (by simp),key _ _ h];rfl
theorem cutp_any (c:UInt8)(s:ByteArray)(w:World)(hs:s.size<=1024) :
    Calls Tryz.prog 256 #[.string s,.string ⟨#[c]⟩] w fun e w'=>w'=w/\∃t:ByteArray,e=.returned (.tuple #[.string t,.bool (hd c s.data.toList)])/\t.data.toList=cutB c s.data.toList/\t.size<=s.size:=by
  have H1:Hid (∀w,Calls Tryz.prog 235 #[.string s,.string ⟨#[c]⟩] w fun e w'=>e=.returned (.bool (hd c s.data.toList))/\w'=w):=fun w=>by
    have:=Tryz.stringslite_HasPrefix s ⟨#[c]⟩ w
    rwa [pref_one]at this
  have H2:Hid (∀w,Calls Tryz.prog 271 #[.string s,.string ⟨#[c]⟩] w fun e w'=>w'=w/\∃t:ByteArray,e=.returned (.tuple #[.string t,.bool (hd c s.data.toList)])/\t.data.toList=cutB c s.data.toList/\t.size<=s.size):=by
    intro w
    by_cases hb:hd c s.data.toList=true
    · have HC:=hid' (cutB_yes hb)
      have hsz:1<=s.size:=by have:=congrArg List.length HC.out;rw[Array.length_toList,List.length_cons]at this;have e:s.data.size=s.size:=rfl;omega
      rw[hb]at H1 ⊢
      clear hb
      go_enter Tryz.func271,Tryz.ntmps271
      go_wp2_with fail
      refine(H1.out _).mono ?_
      rintro e w1 ⟨rfl,rfl⟩
      go_wp2
      go_ret2
      refine⟨rfl,_,rfl,?_,?_⟩
      · rw[ext_drop,HC.out,cutB_self];rfl
      · rw[ByteArray.size_extract];omega
    · have hb:hd c s.data.toList=false:=by simpa using hb
      have HC:=hid' (cutB_no hb)
      rw[hb]at H1 ⊢
      clear hb
      go_enter Tryz.func271,Tryz.ntmps271
      go_wp2_with fail
      refine(H1.out _).mono ?_
      rintro e w1 ⟨rfl,rfl⟩
      go_wp2
      go_ret2
      exact⟨rfl,s,rfl,HC.out.symm,Nat.le_refl _⟩
  go_enter Tryz.func256,Tryz.ntmps256
  go_wp2_with fail
  refine(H2.out _).mono ?_
  rintro e w1 ⟨rfl,t,rfl,ht⟩
  have HT:=hid' ht
  clear ht H1 H2
  go_wp2
  go_ret2
  exact⟨rfl,t,rfl,HT.out⟩
theorem dv_two {D:List UInt8}(h:Dig D)(hl:D.length<=2):dv D<=99:=by
  match D,hl with
  | [],_=>decide
  | [a],_=>have h1:=h a (by simp);show 0*10+(a.toNat-48)<=99;omega
  | [a,b],_=>
    have h1:=h a (by simp)
    have h2:=h b (by simp)
    show (0*10+(a.toNat-48))*10+(b.toNat-48)<=99;omega
theorem lett_bd {L:List UInt8}{x:Int}(h:lettOf L=some x):-15<=x/\x<=12:=by
  unfold lettOf at h
  rw[Option.map_eq_some_iff]at h
  obtain⟨p,hp,rfl⟩:=h
  have hm:=List.mem_of_find?_eq_some hp
  unfold names at hm
  simp only[List.mem_cons,List.not_mem_nil,or_false]at hm
  rcases hm with rfl|rfl|rfl|rfl|rfl|rfl|rfl|rfl|rfl|rfl <;> decide
theorem size_list {s:ByteArray}{L:List UInt8}(h:s.data.toList=L):s.size=L.length:=by rw[<-h,Array.length_toList];rfl
def PowIs (e:Ending)(o:Option Int):Prop:=(o=none/\e=.returned (.tuple #[.int .i64 0,.bool false])) ∨ ∃x,o=some x/\e=.returned (.tuple #[.int .i64 x,.bool true])/\-99<=x/\x<=99
theorem pow_no {L:List UInt8}(h:lettOf L=none)(hn:¬(hd 101 L=true/\rst (behindE L)=[]/\1<=(dgs (behindE L)).length/\(dgs (behindE L)).length<=2)):powOf L=none:=by
  unfold powOf;rw[h]
  show (if _ then _ else none)=none
  rw[if_neg hn]
theorem pow_yes {L:List UInt8}(h:lettOf L=none)(hn:hd 101 L=true/\rst (behindE L)=[]/\1<=(dgs (behindE L)).length/\(dgs (behindE L)).length<=2):powOf L=some (if hd 45 (cutB 101 L)=true then -(dv (dgs (behindE L)):Int) else (dv (dgs (behindE L)):Int)):=by
  unfold powOf;rw[h]
  show (if _ then some _ else none)=_
  rw[if_pos hn]
theorem pow_words {s a b:ByteArray}{b1:Bool}(ha:a.data.toList=dgs (behindE s.data.toList))(hb:b.data.toList=rst (behindE s.data.toList))(h1:hd 101 s.data.toList=b1) :
    (hd 101 s.data.toList=true/\rst (behindE s.data.toList)=[]/\1<=(dgs (behindE s.data.toList)).length/\(dgs (behindE s.data.toList)).length<=2)↔(b1=true/\b.toList=[]/\1<=a.size/\a.size<=2):=by
  rw[h1,<-hb,<-size_list ha,Go.ByteArray.toList_eq]
theorem power_any (s:ByteArray)(w:World)(hl:Lett w)(hs:s.size<=32) :
    Calls Tryz.prog 258 #[.string s] w fun e w'=>Kept w w'/\PowIs e (powOf s.data.toList):=by
  have HL:=hid' hl
  clear hl
  go_enter Tryz.func258,Tryz.ntmps258
  go_wp2_with fail
  refine(letterNamed_any s _ HL.out).mono ?_
  rintro e w1 ⟨hk1,⟨hn,rfl⟩|⟨x,hx,rfl⟩⟩
  · have HK:=hid' hk1
    have HN:=hid' hn
    clear hk1 hn
    go_wp2_with fail
    refine(cutp_any 101 s _ (by omega)).mono ?_
    rintro e w2 ⟨rfl,t1,rfl,ht1,hl1⟩
    generalize hb1:hd 101 s.data.toList=b1
    have H1:=hid' (And.intro ht1 hb1)
    clear ht1 hb1
    go_wp2_with fail
    refine(cutp_any 45 t1 _ (by omega)).mono ?_
    rintro e w3 ⟨rfl,t2,rfl,ht2,hl2⟩
    by_cases hn:hd 45 t1.data.toList=true
    · rw[hn]
      have H2:=hid' (And.intro ht2 hn)
      clear ht2 hn
      obtain⟨t3,ht3⟩:∃t,t=t2:=⟨_,rfl⟩
      rw[<-ht3]
      have hl3:t3.size<=32:=by rw[ht3];omega
      have H3:Hid (t3.data.toList=behindE s.data.toList):=by
        show _=_
        rw[ht3,H2.out.1];unfold behindE;rw[<-H1.out.1,if_pos H2.out.2]
      clear ht3
      go_wp2_with fail
      refine(cut_any t3 _ (by omega)).mono ?_
      rintro e w4 ⟨hk4,a,b,rfl,ha,hb⟩
      rw[H3.out]at ha hb
      have HW:=hid' (pow_words ha hb H1.out.2)
      have H4:=hid' (And.intro ha (And.intro hb ((HK.out.alloc _).trans hk4)))
      clear ha hb hk4
      go_wp2_with fail
      all_goals first
        | (go_ret2
           refine⟨H4.out.2.2,.inl ⟨pow_no HN.out (fun hh=>?_),rfl⟩⟩
           obtain⟨x1,x2,x3,x4⟩:=HW.out.1 hh
           first
             |(exact absurd x1 (by assumption))
             |(exact absurd x2 (by assumption))
             | omega)
        |skip
      have hgood:b1=true/\b.toList=[]/\1<=a.size/\a.size<=2:=⟨by assumption,by assumption,by omega,by omega⟩
      have HG:=hid' (HW.out.2 hgood)
      have hD:Dig a.data.toList:=by rw[H4.out.1];exact dgs_dig _
      have hne:a.data.toList≠[]:=by
        intro e
        have h1:a.size=0:=size_list e
        have h2:=hgood.2.2.1
        omega
      refine(Tryz.strconv_Atoi a (dv a.data.toList:Int) (by omega) (atoi_dig hD hne) _).mono ?_
      rintro e w5 ⟨rfl,t,rfl⟩
      have hdv:=dv_two hD (by rw[Array.length_toList];exact hgood.2.2.2)
      have HD:Hid (dv a.data.toList<=99):=hdv
      have H5:Hid (Kept w (Lib.bytesWorld w4 5 t)):=H4.out.2.2.trans (Lib.bytesWorld_below w4 5 t)
      generalize Lib.bytesWorld w4 5 t=w5 at H5 ⊢
      have HV:Hid (powOf s.data.toList=some (-(dv a.data.toList:Int))):=by
        show _=_
        rw[pow_yes HN.out HG.out,<-H4.out.1]
        rw[if_pos (H1.out.1 ▸ H2.out.2)]
      generalize dv a.data.toList=d at hdv HD HV ⊢
      clear hD hne hgood
      go_wp2
      go_ret2
      exact⟨H5.out,.inr ⟨_,HV.out,rfl,by have:=HD.out;omega,by have:=HD.out;omega⟩⟩
    · have hn:hd 45 t1.data.toList=false:=by simpa using hn
      rw[hn]
      have H2:=hid' (And.intro ht2 hn)
      clear ht2 hn
      go_wp2_with fail
      have hT:=Tryz.strings_TrimPrefix t2 ⟨#[43]⟩ (w1.alloc (.cells #[.string ⟨#[]⟩,.int .i64 0] 195))
      obtain⟨t3,ht3⟩:∃t:ByteArray,t=⟨(Lib.trimPrefix t2.data.toList (⟨#[43]⟩:ByteArray).data.toList).toArray⟩:=⟨_,rfl⟩
      rw[<-ht3]at hT
      have e3:t3.data.toList=cutB 43 t2.data.toList:=by rw[ht3];show Lib.trimPrefix _ [43]=_;exact trim_one _ _
      have hl3:t3.size<=32:=by
        rw[size_list e3]
        have:=size_list (s:=t2) rfl
        unfold cutB
        split
        · rw[List.length_tail];omega
        · omega
      have H3:Hid (t3.data.toList=behindE s.data.toList):=by
        show _=_
        rw[e3,H2.out.1];unfold behindE;rw[<-H1.out.1,if_neg (by rw[H2.out.2];decide),cutB_no H2.out.2]
      clear e3 ht3
      refine hT.mono ?_
      rintro e w3 ⟨rfl,rfl⟩
      clear hT
      go_wp2_with fail
      refine(cut_any t3 _ (by omega)).mono ?_
      rintro e w4 ⟨hk4,a,b,rfl,ha,hb⟩
      rw[H3.out]at ha hb
      have HW:=hid' (pow_words ha hb H1.out.2)
      have H4:=hid' (And.intro ha (And.intro hb ((HK.out.alloc _).trans hk4)))
      clear ha hb hk4
      go_wp2_with fail
      all_goals first
        | (go_ret2
           refine⟨H4.out.2.2,.inl ⟨pow_no HN.out (fun hh=>?_),rfl⟩⟩
           obtain⟨x1,x2,x3,x4⟩:=HW.out.1 hh
           first
             |(exact absurd x1 (by assumption))
             |(exact absurd x2 (by assumption))
             | omega)
        |skip
      have hgood:b1=true/\b.toList=[]/\1<=a.size/\a.size<=2:=⟨by assumption,by assumption,by omega,by omega⟩
      have HG:=hid' (HW.out.2 hgood)
      have hD:Dig a.data.toList:=by rw[H4.out.1];exact dgs_dig _
      have hne:a.data.toList≠[]:=by
        intro e
        have h1:a.size=0:=size_list e
        have h2:=hgood.2.2.1
        omega
      refine(Tryz.strconv_Atoi a (dv a.data.toList:Int) (by omega) (atoi_dig hD hne) _).mono ?_
      rintro e w5 ⟨rfl,t,rfl⟩
      have hdv:=dv_two hD (by rw[Array.length_toList];exact hgood.2.2.2)
      have HD:Hid (dv a.data.toList<=99):=hdv
      have H5:Hid (Kept w (Lib.bytesWorld w4 5 t)):=H4.out.2.2.trans (Lib.bytesWorld_below w4 5 t)
      generalize Lib.bytesWorld w4 5 t=w5 at H5 ⊢
      have HV:Hid (powOf s.data.toList=some ((dv a.data.toList:Int))):=by
        show _=_
        rw[pow_yes HN.out HG.out,<-H4.out.1]
        rw[if_neg (by rw[<-H1.out.1,H2.out.2];decide)]
      generalize dv a.data.toList=d at hdv HD HV ⊢
      clear hD hne hgood
      go_wp2
      go_ret2
      exact⟨H5.out,.inr ⟨_,HV.out,rfl,by have:=HD.out;omega,by have:=HD.out;omega⟩⟩
  · have HK:=hid' hk1
    have HX:=hid' (And.intro hx (lett_bd hx))
    clear hk1 hx
    go_wp2
    go_ret2
    exact⟨HK.out.alloc _,.inr ⟨x,by unfold powOf;rw[HX.out.1],rfl,by have:=HX.out.2;omega,by have:=HX.out.2;omega⟩⟩
theorem read_no1 {L:List UInt8}(h:powOf (tl L)=none):readOf L=none:=by
 unfold readOf
 split
 ·rfl
 ·rw[h]
theorem read_no2 {L:List UInt8}(h:dgs (cutB 45 L)=[]∨(pnt L=true/\beh L=[])):readOf L=none:=by
 unfold readOf
 split
 ·rfl
 ·cases powOf (tl L) with
  |none=>rfl
  |some x=>rfl
theorem read_no0 {L:List UInt8}(h:32<L.length):readOf L=none:=by unfold readOf;rw[if_pos h]
theorem read_yes {L:List UInt8}{x:Int}(h0:L.length<=32)(h:powOf (tl L)=some x)(h2:¬(dgs (cutB 45 L)=[]∨(pnt L=true/\beh L=[]))):readOf L=some (hd 45 L,dgs (cutB 45 L)++beh L,x-(beh L).length):=by
 unfold readOf
 rw[if_neg (by omega),h]
 exact if_neg h2
theorem beh_dig (L:List UInt8):Dig (beh L):=by
 unfold beh
 split
 ·exact dgs_dig _
 ·intro c hc;simp at hc
def ReadIs (e:Ending)(o:Option (Bool×List UInt8×Int)):Prop :=
 (o=none/\e=.returned (.tuple #[.agg #[.bool false,.string ⟨#[]⟩,.int .i64 0],.bool false])) ∨ ∃(n:Bool) (t:ByteArray) (x:Int),o=some (n,t.data.toList,x)/\e=.returned (.tuple #[.agg #[.bool n,.string t,.int .i64 x],.bool true])/\t.size<=64/\-200<=x/\x<=99/\Dig t.data.toList
theorem read_any (s:ByteArray)(w:World)(hl:Lett w)(hs:s.size<=maxLen) :
  Calls Tryz.prog 239 #[.string s] w fun e w'=>Kept w w'/\ReadIs e (readOf s.data.toList):=by
 unfold maxLen at hs
 have HL:=hid' hl
 clear hl
 have hLs:=size_list (s:=s) rfl
 go_enter Tryz.func239,Tryz.ntmps239
 go_upto_region 1 with fail
 have hK:=(Kept.refl w).alloc (.cells #[.bool false,.string ⟨#[]⟩,.int .i64 0] 251)
 have hR:=Row3.alloc 251 w (.bool false) (.string ⟨#[]⟩) (.int .i64 0)
 generalize w.alloc (.cells #[.bool false,.string ⟨#[]⟩,.int .i64 0] 251)=W at hK hR ⊢
 obtain⟨p2,hp2⟩:∃p,p=w.heap.size:=⟨_,rfl⟩
 rw[<-hp2]at hR ⊢
 have HP:Hid (w.heap.size<=p2):=by show _<=_;omega
 have HK:=hid' hK
 have HR:=hid' hR
 clear hp2 hK hR
 by_cases hlong:32<s.size
 ·have q0:=HR.out.c0
  have q1:=HR.out.c1
  have q2:=HR.out.c2
  have f0:=HR.out.fz 0
  have f1:=HR.out.fz 1
  have f2:=HR.out.fz 2
  have HN:=hid' (read_no0 (L:=s.data.toList) (by omega))
  have hgt:(32:Int)<(s.size:Int):=by omega
  clear hLs
  go_wp2_with fail
  exact bodyPost_ret (v:=.tuple #[.agg #[.bool false,.string ⟨#[]⟩,.int .i64 0],.bool false]) (by simp[results,Tryz.results239,go_sem,q0,q1,q2]) rfl ⟨Kept.put3 HK.out HP.out _ _ _,.inl ⟨HN.out,rfl⟩⟩
 ·have hgt:¬(32:Int)<(s.size:Int):=by omega
  have HLs:=hid' hLs
  clear hLs
  go_wp2_with fail
  refine(cutp_any 45 s _ (by omega)).mono ?_
  rintro e w1 ⟨hw1,t1,rfl,ht1,hl1⟩
  rw[hw1]
  clear hw1 w1
  generalize hb1:hd 45 s.data.toList=n
  have H1:=hid' (And.intro ht1 hb1)
  clear ht1 hb1
  go_wp2_with fail
  refine(cut_any t1 _ (by omega)).mono ?_
  rintro e w2 ⟨hk2,a,t2,rfl,ha,ht2⟩
  rw[H1.out.1]at ha ht2
  have hl2:a.size<=32/\t2.size<=32:=by
   have e1:=size_list ha;have e2:=size_list ht2
   have e3:=congrArg List.length (dgs_rst (cutB 45 s.data.toList))
   rw[List.length_append]at e3
   have e4:=size_list H1.out.1
   omega
  have H2:=hid' (And.intro ha (And.intro ht2 hk2))
  clear ha ht2 hk2
  go_wp2_with fail
  refine(cutp_any 46 t2 _ (by omega)).mono ?_
  rintro e w3 ⟨hw3,t3,rfl,ht3,hl3⟩
  rw[hw3]
  clear hw3 w3
  rw[H2.out.2.1]at ht3
  rw[show hd 46 t2.data.toList=pnt s.data.toList by unfold pnt;rw[H2.out.2.1]]
  by_cases hpt:pnt s.data.toList=true
  ·rw[hpt]
   have H3:=hid' (And.intro ht3 (And.intro trivial hpt))
   clear ht3 hpt
   go_wp2_with fail
   refine(cut_any t3 _ (by omega)).mono ?_
   rintro e w4 ⟨hk4,b,r,rfl,hb,hr⟩
   have hlb:b.size<=32/\r.size<=32:=by
    have e1:=size_list hb;have e2:=size_list hr
    have e3:=congrArg List.length (dgs_rst t3.data.toList)
    rw[List.length_append]at e3
    have e4:=size_list (s:=t3) rfl
    omega
   have H4:Hid (b.data.toList=beh s.data.toList/\r.data.toList=tl s.data.toList/\Kept W w4):=⟨by rw[hb];unfold beh;rw[if_pos H3.out.2.2,H3.out.1],by rw[hr];unfold tl;rw[if_pos H3.out.2.2,H3.out.1],H2.out.2.2.trans hk4⟩
   clear hb hr hk4
   go_wp2_with fail
   refine(power_any r _ (HL.out.kept (HK.out.trans H4.out.2.2)) (by omega)).mono ?_
   rintro e w5 ⟨hk5,hp⟩
   have hR5:=HR.out.kept (H4.out.2.2.trans hk5)
   have q0:=hR5.c0
   have q1:=hR5.c1
   have q2:=hR5.c2
   have f0:=hR5.fz 0
   have f1:=hR5.fz 1
   have f2:=hR5.fz 2
   have HK5:=hid' (HK.out.trans (H4.out.2.2.trans hk5))
   clear hk5 hR5
   rw[H4.out.2.1]at hp
   rcases hp with ⟨hp,rfl⟩|⟨x,hp,rfl,hx1,hx2⟩
   ·have H5:=hid' hp
    clear hp
    go_wp2_with fail
    exact bodyPost_ret (v:=.tuple #[.agg #[.bool false,.string ⟨#[]⟩,.int .i64 0],.bool false]) (by simp[results,Tryz.results239,go_sem,q0,q1,q2]) rfl ⟨Kept.put3 HK5.out HP.out _ _ _,.inl ⟨read_no1 H5.out,rfl⟩⟩
   ·have H5:=hid' hp
    clear hp
    go_wp2_with fail
    ·rename_i h0
     exact bodyPost_ret (v:=.tuple #[.agg #[.bool false,.string ⟨#[]⟩,.int .i64 0],.bool false]) (by simp[results,Tryz.results239,go_sem,q0,q1,q2]) rfl ⟨Kept.put3 HK5.out HP.out _ _ _,.inl ⟨read_no2 (.inl (by rw[<-H2.out.1,<-Go.ByteArray.toList_eq];exact h0)),rfl⟩⟩
    ·rename_i h0 h1
     exact bodyPost_ret (v:=.tuple #[.agg #[.bool false,.string ⟨#[]⟩,.int .i64 0],.bool false]) (by simp[results,Tryz.results239,go_sem,q0,q1,q2]) rfl ⟨Kept.put3 HK5.out HP.out _ _ _,.inl ⟨read_no2 (by rcases h1 with h1|h1;exact absurd (by simpa using h1) h0;exact .inr ⟨H3.out.2.2,by rw[<-H4.out.1,<-Go.ByteArray.toList_eq];simpa using h1⟩),rfl⟩⟩
    ·rename_i h0 h1
     refine bodyPost_ret (v:=.tuple #[.agg #[.bool n,.string (a++b),.int .i64 (x-b.size)],.bool true]) (by simp[results,Tryz.results239,go_sem,q0,q1,q2]) rfl ⟨Kept.put3 HK5.out HP.out _ _ _,.inr ⟨n,a++b,(x-b.size),?_,rfl,?_,by omega,by omega,?_⟩⟩
     ·have h2:=read_yes (L:=s.data.toList) (x:=x) (by have:=HLs.out;omega) H5.out (fun hh=>by rcases hh with hh|hh;exact h0 (by rw[Go.ByteArray.toList_eq,H2.out.1];exact hh);have:=h1.2;rw[Go.ByteArray.toList_eq,H4.out.1,hh.2]at this;cases this)
      rw[h2,H1.out.2,<-H2.out.1,<-H4.out.1]
      simp[ByteArray.data_append]
     ·rw[ByteArray.size_append];omega
     ·rw[ByteArray.data_append,Array.toList_append,H2.out.1,H4.out.1]
      exact(dgs_dig _).append (beh_dig _)
  ·have hpt:pnt s.data.toList=false:=by simpa using hpt
   rw[hpt]
   have H3:=hid' (And.intro ht3 (And.intro trivial hpt))
   clear ht3 hpt
   go_wp2_with fail
   obtain⟨r,hr⟩:∃r,r=t3:=⟨_,rfl⟩
   obtain⟨w4,hw4⟩:∃v,v=w2:=⟨_,rfl⟩
   have hlb:r.size<=32:=by rw[hr];omega
   have H4:Hid ((⟨#[]⟩:ByteArray).data.toList=beh s.data.toList/\r.data.toList=tl s.data.toList/\Kept W w4):=⟨by unfold beh;rw[if_neg (by rw[H3.out.2.2];decide)],by rw[hr];unfold tl;rw[if_neg (by rw[H3.out.2.2];decide),H3.out.1],by rw[hw4];exact H2.out.2.2⟩
   rw[<-hr,<-hw4]
   clear hr hw4
   refine(power_any r _ (HL.out.kept (HK.out.trans H4.out.2.2)) (by omega)).mono ?_
   rintro e w5 ⟨hk5,hp⟩
   have hR5:=HR.out.kept (H4.out.2.2.trans hk5)
   have q0:=hR5.c0
   have q1:=hR5.c1
   have q2:=hR5.c2
   have f0:=hR5.fz 0
   have f1:=hR5.fz 1
   have f2:=hR5.fz 2
   have HK5:=hid' (HK.out.trans (H4.out.2.2.trans hk5))
   clear hk5 hR5
   rw[H4.out.2.1]at hp
   rcases hp with ⟨hp,rfl⟩|⟨x,hp,rfl,hx1,hx2⟩
   ·have H5:=hid' hp
    clear hp
    go_wp2_with fail
    exact bodyPost_ret (v:=.tuple #[.agg #[.bool false,.string ⟨#[]⟩,.int .i64 0],.bool false]) (by simp[results,Tryz.results239,go_sem,q0,q1,q2]) rfl ⟨Kept.put3 HK5.out HP.out _ _ _,.inl ⟨read_no1 H5.out,rfl⟩⟩
   ·have H5:=hid' hp
    clear hp
    go_wp2_with fail
    ·rename_i h0
     exact bodyPost_ret (v:=.tuple #[.agg #[.bool false,.string ⟨#[]⟩,.int .i64 0],.bool false]) (by simp[results,Tryz.results239,go_sem,q0,q1,q2]) rfl ⟨Kept.put3 HK5.out HP.out _ _ _,.inl ⟨read_no2 (.inl (by rw[<-H2.out.1,<-Go.ByteArray.toList_eq];exact h0)),rfl⟩⟩
    ·rename_i h0 h1
     exact bodyPost_ret (v:=.tuple #[.agg #[.bool false,.string ⟨#[]⟩,.int .i64 0],.bool false]) (by simp[results,Tryz.results239,go_sem,q0,q1,q2]) rfl ⟨Kept.put3 HK5.out HP.out _ _ _,.inl ⟨read_no2 (absurd (by simpa using h1) h0),rfl⟩⟩
    ·rename_i h0 h1
     refine bodyPost_ret (v:=.tuple #[.agg #[.bool n,.string (a++(⟨#[]⟩:ByteArray)),.int .i64 x],.bool true]) (by simp[results,Tryz.results239,go_sem,q0,q1,q2]) rfl ⟨Kept.put3 HK5.out HP.out _ _ _,.inr ⟨n,a++(⟨#[]⟩:ByteArray),x,?_,rfl,?_,by omega,by omega,?_⟩⟩
     ·have h2:=read_yes (L:=s.data.toList) (x:=x) (by have:=HLs.out;omega) H5.out (fun hh=>by rcases hh with hh|hh;exact h0 (by rw[Go.ByteArray.toList_eq,H2.out.1];exact hh);rw[H3.out.2.2]at hh;cases hh.1)
      rw[h2,H1.out.2,<-H2.out.1,<-H4.out.1]
      simp[ByteArray.data_append]
     ·rw[ByteArray.size_append];show a.size+0<=64;omega
     ·rw[ByteArray.data_append,Array.toList_append,H2.out.1,H4.out.1]
      exact(dgs_dig _).append (beh_dig _)
def ErrV (w:World):Prop:=∃te pe,w.cell? ⟨8,0,none⟩=some (.iface te pe)
theorem ErrV.kept {w w':World}(h:ErrV w)(k:Kept w w'):ErrV w':=by
 obtain⟨te,pe,h⟩:=h
 exact⟨te,pe,cell_kept k h⟩
theorem dvF_ge (n:Nat)(l:List UInt8):n<=dvF n l:=by
 rw[dvF_pow]
 have h:=Nat.mul_le_mul_left n (Nat.pow_pos (n:=l.length) (show 0<10 by decide))
 omega
theorem puM {l:List UInt8}(h:Dig l)(acc:Nat)(ha:acc<=18446744073709551615):Lib.parseUintM 18446744073709551615 acc l=if dvF acc l<=18446744073709551615 then .ok (dvF acc l) else .range:=by
 induction l generalizing acc with
 |nil=>show _=if acc<=_ then _ else _;rw[if_pos ha];rfl
 |cons c r ih=>
  have hc:=h c (by simp)
  have e:dvF acc (c::r)=dvF (acc*10+(c.toNat-48)) r:=rfl
  have hg:=dvF_ge (acc*10+(c.toNat-48)) r
  unfold Lib.parseUintM
  rw[if_pos hc]
  by_cases h1:1844674407370955162<=acc
  ·rw[if_pos h1,if_neg (by rw[e];omega)]
  ·rw[if_neg h1]
   by_cases h2:18446744073709551615<acc*10+(c.toNat-48)
   ·rw[if_pos h2,if_neg (by rw[e];omega)]
   ·rw[if_neg h2,ih (fun x hx=>h x (by simp[hx])) _ (by omega)];rfl
theorem parseInt_dig {D:List UInt8}(h:Dig D)(hne:D≠[]):Lib.parseIntB 64 D=if dv D<9223372036854775808 then .ok (dv D:Int) else .range:=by
 obtain⟨a,t,rfl⟩:=List.exists_cons_of_ne_nil hne
 have h1:=h a (by simp)
 have hu:Lib.parseUintB 64 (a::t)=if dv (a::t)<=18446744073709551615 then .ok (dv (a::t)) else .range:=by
  unfold Lib.parseUintB
  rw[if_neg (by simp)]
  exact puM h 0 (by decide)
 unfold Lib.parseIntB
 simp only[if_neg (show ¬(a.toNat=43∨a.toNat=45) by omega),hu]
 have hn:¬a.toNat=45:=by omega
 by_cases h2:dv (a::t)<=18446744073709551615
 ·rw[if_pos h2]
  by_cases h3:dv (a::t)<9223372036854775808
  ·rw[if_pos h3]
   simp[hn]
   omega
  ·rw[if_neg h3]
   simp[hn]
   omega
 ·rw[if_neg h2,if_neg (by omega)]
def NumIs (e:Ending)(o:Option (Int×Int)):Prop :=
 (o=none/\∃m y,e=.returned (.tuple #[.agg #[.int .i64 m,.int .i64 y],.bool false])) ∨ ∃m y,o=some (m,y)/\e=.returned (.tuple #[.agg #[.int .i64 m,.int .i64 y],.bool true])
theorem num_near {n:Bool}{D:List UInt8}{x m y:Int}(h0:¬trz D=[])(hv:dv (trz D)<9223372036854775808)(hm:m=if n=true then -(dv (trz D):Int) else (dv (trz D):Int))(hy:y=x+D.length-(trz D).length):numOf n D x=if okN m y=true then some (m,y) else none:=by
 unfold numOf
 rw[if_neg h0,<-hm,<-hy]
 by_cases h:okN m y=true
 ·rw[if_pos ⟨hv,h⟩,if_pos h]
 ·rw[if_neg (fun hh=>h hh.2),if_neg h]
theorem num_far {n:Bool}{D:List UInt8}{x:Int}(h0:¬trz D=[])(hv:¬dv (trz D)<9223372036854775808):numOf n D x=none:=by
 unfold numOf
 rw[if_neg h0,if_neg (fun hh=>hv hh.1)]
theorem numIs_ok {n:Bool}{D:List UInt8}{x m y:Int}{bo:Bool}(h0:¬trz D=[])(hv:dv (trz D)<9223372036854775808)(hm:m=if n=true then -(dv (trz D):Int) else (dv (trz D):Int))(hy:y=x+D.length-(trz D).length)(ho:okN m y=bo):NumIs (.returned (.tuple #[.agg #[.int .i64 m,.int .i64 y],.bool bo])) (numOf n D x):=by
 rw[num_near h0 hv hm hy,ho]
 cases bo
 ·exact .inl ⟨rfl,m,y,rfl⟩
 ·exact .inr ⟨m,y,rfl,rfl⟩
theorem head_not (L:List UInt8)(h:Dig L):¬L.head?.map (·.toNat)=some 45:=by
 cases L with
 |nil=>simp
 |cons a t=>have:=h a (by simp);simp;omega
theorem number_any (n:Bool)(t:ByteArray)(x:Int)(w:World)(he:ErrV w)(ht:t.size<=64)(hx1:-200<=x)(hx2:x<=99)(hD:Dig t.data.toList) :
  Calls Tryz.prog 240 #[.agg #[.bool n,.string t,.int .i64 x]] w fun e w'=>Kept w w'/\NumIs e (numOf n t.data.toList x):=by
 have HE:=hid' he
 have HD:=hid' hD
 clear he hD
 go_enter Tryz.func240,Tryz.ntmps240
 go_upto_region 1 with fail
 have hK:=((Kept.refl w).alloc (.cells #[.bool n,.string t,.int .i64 x] 251)).alloc (.cells #[.int .i64 0,.int .i64 0] 25)
 have hR1:=(Row3.alloc 251 w (.bool n) (.string t) (.int .i64 x)).kept ((Kept.refl _).alloc (.cells #[.int .i64 0,.int .i64 0] 25))
 have hR2:=Row2.alloc 25 (w.alloc (.cells #[.bool n,.string t,.int .i64 x] 251)) (.int .i64 0) (.int .i64 0)
 rw[World.size_alloc]at hR2
 generalize (w.alloc (.cells #[.bool n,.string t,.int .i64 x] 251)).alloc (.cells #[.int .i64 0,.int .i64 0] 25)=W at hK hR1 hR2 ⊢
 obtain⟨p2,hp2⟩:∃p,p=w.heap.size+1:=⟨_,rfl⟩
 rw[<-hp2]at hR2 ⊢
 obtain⟨p1,hp1⟩:∃p,p=w.heap.size:=⟨_,rfl⟩
 rw[<-hp1]at hR1 ⊢
 have HP:Hid (w.heap.size<=p2):=by show _<=_;omega
 have HK:=hid' hK
 have HR1:=hid' hR1
 have HR2:=hid' hR2
 have r0:=hR1.c0
 have r1:=hR1.c1
 have r2:=hR1.c2
 clear hp1 hp2 hK hR1 hR2
 go_wp2_with fail
 have hT:=Tryz.strings_TrimRight_one t 48 (by decide) W (by omega)
 obtain⟨u,hu⟩:∃u:ByteArray,u=⟨(Lib.trimRightB t.data.toList 48).toArray⟩:=⟨_,rfl⟩
 rw[<-hu]at hT
 have hul:u.data.toList=trz t.data.toList:=by rw[hu];rfl
 have hus:u.size<=t.size:=by
  rw[size_list hul,size_list (s:=t) rfl];exact trz_len _
 have HU:=hid' hul
 clear hu hul
 refine hT.mono ?_
 rintro e w1 ⟨rfl,hw1⟩
 rw[hw1]
 clear hw1 w1 hT
 by_cases h0:trz t.data.toList=[]
 ·have hb:u.toList=[]:=by rw[Go.ByteArray.toList_eq,HU.out,h0]
  have H0:=hid' h0
  obtain⟨q0,q1,q2,q3⟩:=HR2.out.all
  clear h0
  go_wp2_with fail
  exact bodyPost_ret (v:=.tuple #[.agg #[.int .i64 0,.int .i64 0],.bool true]) (by simp[results,Tryz.results240,go_sem,q0,q1]) rfl ⟨Kept.put2 HK.out HP.out _ _,.inr ⟨0,0,by unfold numOf;rw[if_pos H0.out],rfl⟩⟩
 ·have hb:u.toList.isEmpty=false:=by rw[Go.ByteArray.toList_eq,HU.out];simpa using h0
  have H0:=hid' h0
  have hDu:Dig u.data.toList:=by rw[HU.out];exact trz_dig HD.out
  have hne:u.data.toList≠[]:=by rw[HU.out];exact h0
  have hpi:=parseInt_dig hDu hne
  clear h0 hDu hne
  by_cases hv:dv (trz t.data.toList)<9223372036854775808
  ·rw[HU.out,if_pos hv]at hpi
   have HV:=hid' hv
   have hP:=Tryz.strconv_ParseInt_10_at64_ok u (by omega) _ (by rw[HU.out];exact hpi) W
   obtain⟨d,hd⟩:∃d,d=dv (trz t.data.toList):=⟨_,rfl⟩
   rw[<-hd]at hP hv
   have Hd:=hid' hd
   clear hpi hd
   go_wp2_with fail
   refine hP.mono ?_
   rintro e w2 ⟨rfl,hw⟩
   have hk2:Kept W w2:=by
    rcases hw with rfl|⟨z,rfl⟩
    ·exact Kept.refl _
    ·exact Lib.bytesWorld_below _ _ _
   have HK2:=hid' (HK.out.trans hk2)
   have HR2:=hid' (HR2.out.kept hk2)
   have r0:=(HR1.out.kept hk2).c0
   have r1:=(HR1.out.kept hk2).c1
   have r2:=(HR1.out.kept hk2).c2
   clear hw hk2 hP
   cases n
   ·go_upto_region 8 with fail
    have hR7:=Row2.alloc 25 w2 (.int .i64 (d:Int)) (.int .i64 (x+t.size-u.size))
    have hR2:=HR2.out.kept ((Kept.refl w2).alloc (.cells #[.int .i64 (d:Int),.int .i64 (x+t.size-u.size)] 25))
    have hK3:=HK2.out.alloc (.cells #[.int .i64 (d:Int),.int .i64 (x+t.size-u.size)] 25)
    generalize w2.alloc (.cells #[.int .i64 (d:Int),.int .i64 (x+t.size-u.size)] 25)=W3 at hR7 hR2 hK3 ⊢
    obtain⟨p7,hp7⟩:∃p,p=w2.heap.size:=⟨_,rfl⟩
    rw[<-hp7]at hR7 ⊢
    have n27:¬p2=p7:=by have:=HR2.out.lt;omega
    have n72:¬p7=p2:=fun h=>n27 h.symm
    obtain⟨mv,hmv⟩:∃m:Int,m=(d:Int):=⟨_,rfl⟩
    obtain⟨y,hy⟩:∃m:Int,m=x+t.size-u.size:=⟨_,rfl⟩
    rw[<-hmv,<-hy]at hR7 ⊢
    have HM:=hid' (And.intro hmv hy)
    have H2:=hid' hR2
    have H7:=hid' hR7
    have HK3:=hid' hK3
    have s0:=hR7.c0
    have s1:=hR7.c1
    clear hmv hy hp7 hR2 hR7 hK3
    go_region_held3 (fun w'=>w'.cell? ⟨p7,0,none⟩=some (.int .i64 mv)/\w'.cell? ⟨p7,1,none⟩=some (.int .i64 y)) (go_keep) (first|(go_at_call 180;refine(Valid_any mv y _).mono ?_;rintro e w4 ⟨hk4,rfl⟩;have K4:=(Kept.refl W3).drew.trans hk4;obtain⟨q0,q1,q2,q3⟩:=(H2.out.kept K4).all;have s0':=(H7.out.kept K4).c0;have s1':=(H7.out.kept K4).c1))
    have HK4:=hid' (HK3.out.trans K4)
    clear K4 hk4
    generalize hok:okN mv y=bo
    have HO:=hid' hok
    clear hok
    go_wp2_with fail
    exact bodyPost_ret (v:=.tuple #[.agg #[.int .i64 mv,.int .i64 y],.bool bo]) (by simp[results,Tryz.results240,go_sem,q0,q1]) rfl ⟨Kept.put2 HK4.out HP.out _ _,numIs_ok H0.out HV.out (by rw[HM.out.1,Hd.out];rfl) (by rw[HM.out.2,size_list HU.out,size_list (s:=t) rfl]) HO.out⟩
   ·go_upto_region 8 with fail
    have hR7:=Row2.alloc 25 w2 (.int .i64 (-(d:Int))) (.int .i64 (x+t.size-u.size))
    have hR2:=HR2.out.kept ((Kept.refl w2).alloc (.cells #[.int .i64 (-(d:Int)),.int .i64 (x+t.size-u.size)] 25))
    have hK3:=HK2.out.alloc (.cells #[.int .i64 (-(d:Int)),.int .i64 (x+t.size-u.size)] 25)
    generalize w2.alloc (.cells #[.int .i64 (-(d:Int)),.int .i64 (x+t.size-u.size)] 25)=W3 at hR7 hR2 hK3 ⊢
    obtain⟨p7,hp7⟩:∃p,p=w2.heap.size:=⟨_,rfl⟩
    rw[<-hp7]at hR7 ⊢
    have n27:¬p2=p7:=by have:=HR2.out.lt;omega
    have n72:¬p7=p2:=fun h=>n27 h.symm
    obtain⟨mv,hmv⟩:∃m:Int,m=(-(d:Int)):=⟨_,rfl⟩
    obtain⟨y,hy⟩:∃m:Int,m=x+t.size-u.size:=⟨_,rfl⟩
    rw[<-hmv,<-hy]at hR7 ⊢
    have HM:=hid' (And.intro hmv hy)
    have H2:=hid' hR2
    have H7:=hid' hR7
    have HK3:=hid' hK3
    have s0:=hR7.c0
    have s1:=hR7.c1
    clear hmv hy hp7 hR2 hR7 hK3
    go_region_held3 (fun w'=>w'.cell? ⟨p7,0,none⟩=some (.int .i64 mv)/\w'.cell? ⟨p7,1,none⟩=some (.int .i64 y)) (go_keep) (first|(go_at_call 180;refine(Valid_any mv y _).mono ?_;rintro e w4 ⟨hk4,rfl⟩;have K4:=(Kept.refl W3).drew.trans hk4;obtain⟨q0,q1,q2,q3⟩:=(H2.out.kept K4).all;have s0':=(H7.out.kept K4).c0;have s1':=(H7.out.kept K4).c1))
    have HK4:=hid' (HK3.out.trans K4)
    clear K4 hk4
    generalize hok:okN mv y=bo
    have HO:=hid' hok
    clear hok
    go_wp2_with fail
    exact bodyPost_ret (v:=.tuple #[.agg #[.int .i64 mv,.int .i64 y],.bool bo]) (by simp[results,Tryz.results240,go_sem,q0,q1]) rfl ⟨Kept.put2 HK4.out HP.out _ _,numIs_ok H0.out HV.out (by rw[HM.out.1,Hd.out];rfl) (by rw[HM.out.2,size_list HU.out,size_list (s:=t) rfl]) HO.out⟩
  ·rw[HU.out,if_neg hv]at hpi
   have HV:=hid' hv
   obtain⟨te,pe,hev⟩:=HE.out.kept HK.out
   have hP:=Tryz.strconv_ParseInt_10_at64_range u (by omega) (by rw[HU.out];exact hpi) (.iface te pe) W hev (.inr ⟨te,pe,rfl⟩)
   obtain⟨sat,hsat⟩:∃d:Int,d=Lib.intSat 64 u.data.toList:=⟨_,rfl⟩
   rw[<-hsat]at hP
   have hs2:-9223372036854775807<=sat/\sat<=9223372036854775807:=by
    rw[hsat];unfold Lib.intSat
    rw[if_neg (head_not u.data.toList (by rw[HU.out];exact trz_dig HD.out))]
    decide
   clear hpi hsat hev
   go_wp2_with fail
   refine hP.mono ?_
   rintro e w2 ⟨N,rfl,_,_,hk2⟩
   have hk2:Kept W w2:=hk2
   have HK2:=hid' (HK.out.trans hk2)
   have HR2:=hid' (HR2.out.kept hk2)
   have r0:=(HR1.out.kept hk2).c0
   have r1:=(HR1.out.kept hk2).c1
   have r2:=(HR1.out.kept hk2).c2
   clear hk2 hP
   cases n
   ·go_upto_region 8 with fail
    have hR7:=Row2.alloc 25 w2 (.int .i64 sat) (.int .i64 (x+t.size-u.size))
    have hR2:=HR2.out.kept ((Kept.refl w2).alloc (.cells #[.int .i64 sat,.int .i64 (x+t.size-u.size)] 25))
    have hK3:=HK2.out.alloc (.cells #[.int .i64 sat,.int .i64 (x+t.size-u.size)] 25)
    generalize w2.alloc (.cells #[.int .i64 sat,.int .i64 (x+t.size-u.size)] 25)=W3 at hR7 hR2 hK3 ⊢
    obtain⟨p7,hp7⟩:∃p,p=w2.heap.size:=⟨_,rfl⟩
    rw[<-hp7]at hR7 ⊢
    have n27:¬p2=p7:=by have:=HR2.out.lt;omega
    have n72:¬p7=p2:=fun h=>n27 h.symm
    obtain⟨mv,hmv⟩:∃m:Int,m=sat:=⟨_,rfl⟩
    obtain⟨y,hy⟩:∃m:Int,m=x+t.size-u.size:=⟨_,rfl⟩
    rw[<-hmv,<-hy]at hR7 ⊢
    have HM:=hid' (And.intro hmv hy)
    have H2:=hid' hR2
    have H7:=hid' hR7
    have HK3:=hid' hK3
    have s0:=hR7.c0
    have s1:=hR7.c1
    clear hmv hy hp7 hR2 hR7 hK3
    obtain⟨q0,q1,q2,q3⟩:=H2.out.all
    have HK4:=hid' HK3.out.drew
    go_region_with fail
    all_goals go_wp2_with fail
    all_goals exact bodyPost_ret (v:=.tuple #[.agg #[.int .i64 mv,.int .i64 y],.bool false]) (by simp[results,Tryz.results240,go_sem,q0,q1]) rfl ⟨Kept.put2 HK4.out HP.out _ _,.inl ⟨num_far H0.out HV.out,mv,y,rfl⟩⟩
   ·go_upto_region 8 with fail
    have hR7:=Row2.alloc 25 w2 (.int .i64 (-sat)) (.int .i64 (x+t.size-u.size))
    have hR2:=HR2.out.kept ((Kept.refl w2).alloc (.cells #[.int .i64 (-sat),.int .i64 (x+t.size-u.size)] 25))
    have hK3:=HK2.out.alloc (.cells #[.int .i64 (-sat),.int .i64 (x+t.size-u.size)] 25)
    generalize w2.alloc (.cells #[.int .i64 (-sat),.int .i64 (x+t.size-u.size)] 25)=W3 at hR7 hR2 hK3 ⊢
    obtain⟨p7,hp7⟩:∃p,p=w2.heap.size:=⟨_,rfl⟩
    rw[<-hp7]at hR7 ⊢
    have n27:¬p2=p7:=by have:=HR2.out.lt;omega
    have n72:¬p7=p2:=fun h=>n27 h.symm
    obtain⟨mv,hmv⟩:∃m:Int,m=(-sat):=⟨_,rfl⟩
    obtain⟨y,hy⟩:∃m:Int,m=x+t.size-u.size:=⟨_,rfl⟩
    rw[<-hmv,<-hy]at hR7 ⊢
    have HM:=hid' (And.intro hmv hy)
    have H2:=hid' hR2
    have H7:=hid' hR7
    have HK3:=hid' hK3
    have s0:=hR7.c0
    have s1:=hR7.c1
    clear hmv hy hp7 hR2 hR7 hK3
    obtain⟨q0,q1,q2,q3⟩:=H2.out.all
    have HK4:=hid' HK3.out.drew
    go_region_with fail
    all_goals go_wp2_with fail
    all_goals exact bodyPost_ret (v:=.tuple #[.agg #[.int .i64 mv,.int .i64 y],.bool false]) (by simp[results,Tryz.results240,go_sem,q0,q1]) rfl ⟨Kept.put2 HK4.out HP.out _ _,.inl ⟨num_far H0.out HV.out,mv,y,rfl⟩⟩
def numE (r:Int×Int×Int):Ending:=.returned (.tuple #[.agg #[.int .i64 r.1,.int .i64 r.2.1],.int .i64 r.2.2])
theorem parse_any (s:ByteArray)(w:World)(hl:Lett w)(he:ErrV w)(hs:s.size<=maxLen) :
  Calls Tryz.prog 213 #[.string s] w fun e w'=>Kept w w'/\e=numE (parseOf s.data.toList):=by
 have HL:=hid' (And.intro hl (And.intro he hs))
 clear hl he hs
 go_enter Tryz.func213,Tryz.ntmps213
 go_upto_region 1 with fail
 have hK:=(Kept.refl w).alloc (.cells #[.int .i64 0,.int .i64 0] 25)
 have hR:=Row2.alloc 25 w (.int .i64 0) (.int .i64 0)
 generalize w.alloc (.cells #[.int .i64 0,.int .i64 0] 25)=W at hK hR ⊢
 obtain⟨p2,hp2⟩:∃p,p=w.heap.size:=⟨_,rfl⟩
 rw[<-hp2]at hR ⊢
 have HP:Hid (w.heap.size<=p2):=by show _<=_;omega
 have HK:=hid' hK
 have HR:=hid' hR
 clear hp2 hK hR
 go_wp2_with fail
 refine(read_any s _ (HL.out.1.kept HK.out) HL.out.2.2).mono ?_
 rintro e w1 ⟨hk1,hr⟩
 have HK1:=hid' hk1
 clear hk1
 rcases hr with ⟨hr,rfl⟩|⟨n,t,x,hr,rfl,ht,hx1,hx2,hD⟩
 ·have H0:=hid' (parseOf_none hr)
  clear hr
  obtain⟨q0,q1,q2,q3⟩:=(HR.out.kept (HK1.out.alloc (.cells #[.bool false,.string ⟨#[]⟩,.int .i64 0] 251))).all
  go_wp2_with fail
  exact bodyPost_ret (v:=.tuple #[.agg #[.int .i64 0,.int .i64 0],.int .i64 3]) (by simp[results,Tryz.results213,go_sem,q0,q1]) rfl ⟨Kept.put2 ((HK.out.trans HK1.out).alloc _) HP.out _ _,by rw[H0.out];rfl⟩
 ·have H0:=hid' (parseOf_some hr)
  have H1:=hid' hD
  clear hr hD
  go_wp2_with fail
  refine(number_any n t x _ (HL.out.2.1.kept ((HK.out.trans HK1.out).alloc _)) ht hx1 hx2 H1.out).mono ?_
  rintro e w2 ⟨hk2,hn⟩
  have HK2:=hid' ((HK1.out.alloc _).trans hk2)
  clear hk2
  rcases hn with ⟨hn,m,y,rfl⟩|⟨m,y,hn,rfl⟩
  ·have H2:=hid' hn
   clear hn
   obtain⟨q0,q1,q2,q3⟩:=(HR.out.kept (HK2.out.alloc (.cells #[.int .i64 m,.int .i64 y] 25))).all
   go_wp2_with fail
   exact bodyPost_ret (v:=.tuple #[.agg #[.int .i64 0,.int .i64 0],.int .i64 30]) (by simp[results,Tryz.results213,go_sem,q0,q1]) rfl ⟨Kept.put2 ((HK.out.trans HK2.out).alloc _) HP.out _ _,by rw[H0.out,H2.out];rfl⟩
  ·have H2:=hid' hn
   clear hn
   obtain⟨q0,q1,q2,q3⟩:=(HR.out.kept (HK2.out.alloc (.cells #[.int .i64 m,.int .i64 y] 25))).all
   go_wp2_with fail
   exact bodyPost_ret (v:=.tuple #[.agg #[.int .i64 m,.int .i64 y],.int .i64 0]) (by simp[results,Tryz.results213,go_sem,q0,q1]) rfl ⟨Kept.put2 ((HK.out.trans HK2.out).alloc _) HP.out _ _,by rw[H0.out,H2.out];rfl⟩
end Q
end Go.Proofs.YtdjhmgmjiglcbaaGreatDoor

/- A flat circuit that came in as an argument, with how long its lists may be, so that it can be copied. -/
import Derived.Test.YtdjhmgmjiglcbaaGreatDoorGbj
import Derived.Test.YtdjhmgmjiglcbaaGreatDoorGbi
import Derived.Test.YtdjhmgmjiglcbaaGreatDoorGbj
set_option maxRecDepth 100000
namespace Go.Proofs.YtdjhmgmjiglcbaaGreatDoor
open Go.ChangeShapes Go.WideShapes Go.ChangeAt Go.RowKit Go.Joins Go.Deep
namespace V
open X (bs RS)
theorem bytes_dev:Tryz.prog.bytesOf 48=200:=by kernel_rfl
theorem open_dev2 {H:Type}{enc:TypeId×Value->H}{W:World}{fuel:Nat}{c0 c1 c2 c3 c4 c5 c6 c7 c8 c9 c10 c11 c12:Value}{y:DataW H×List MemPlace}(h:DataW.trod enc Tryz.prog W 0 (fun _=>true) true fuel 48 [c0,c1,c2,c3,c4,c5,c6,c7,c8,c9,c10,c11,c12]=some y)(hz:∀x∈y.1.weights Tryz.prog 48,x<=reachBytes) :
  ∃d:DE,[c0,c1,c2,c3,c4,c5,c6,c7,c8,c9,c10,c11,c12]=d.cells/\d.ok W/\d.sz/\d.fit/\d.wsz:=by
 obtain⟨y0,y1,y2,y3,y4,y5,y6,q,hy,h0,h1,h2,h3,h4,h5,h6⟩:=trod_struct7 (cs:=[c0,c1,c2,c3,c4,c5,c6,c7,c8,c9,c10,c11,c12]) Tryz.underlying48 h
 simp only[cells_u8,List.drop_zero,List.take_succ_cons,List.take_zero]at h0
 simp only[cells_str,List.drop_succ_cons,List.drop_zero,List.take_succ_cons,List.take_zero]at h1
 simp only[cells_ints,List.drop_succ_cons,List.drop_zero,List.take_succ_cons,List.take_zero]at h2
 simp only[cells_i,List.drop_succ_cons,List.drop_zero,List.take_succ_cons,List.take_zero]at h3
 simp only[cells_num,List.drop_succ_cons,List.drop_zero,List.take_succ_cons,List.take_zero]at h4
 simp only[cells_wave,List.drop_succ_cons,List.drop_zero,List.take_succ_cons,List.take_zero]at h5
 simp only[cells_model',List.drop_succ_cons,List.drop_zero,List.take_succ_cons,List.take_zero]at h6
 obtain⟨k,e0,_,_⟩:=DataW.trod_int Tryz.underlying5 h0
 obtain⟨s,e1,d1,_⟩:=DataW.trod_string Tryz.underlying9 h1
 obtain⟨rf,e3,_,_⟩:=DataW.trod_int Tryz.underlying3 h3
 simp at e0 e1 e3
 subst e0 e1 e3
 obtain⟨m,x,rfl,rfl,_,_⟩:=open_pair h4
 obtain⟨an,nn,cn,nds,rfl,rn,wn⟩:=open_isl h2
 obtain⟨z0,z1,z2,q',hy5,_,g0,g1,g2⟩:=trod_struct3 (cs:=[c6,c7,c8]) Tryz.underlying44 h5
 simp only[cells_i,List.drop_zero,List.take_succ_cons,List.take_zero]at g0
 simp only[cells_nums,List.drop_succ_cons,List.drop_zero,List.take_succ_cons,List.take_zero]at g1
 simp only[cells_ints,List.drop_succ_cons,List.drop_zero,List.take_succ_cons,List.take_zero]at g2
 obtain⟨wk,e6,_,_⟩:=DataW.trod_int Tryz.underlying3 g0
 simp at e6
 subst e6
 obtain⟨av,nv,cv,wvl,rfl,rv,w5⟩:=open_nsl g1
 obtain⟨ai,ni,ci,wsl,rfl,ri,w6⟩:=open_isl g2
 obtain⟨u0,u1,u2,u3,q2,hy6,_,t0,t1,t2,t3⟩:=trod_struct4 (cs:=[c9,c10,c11,c12]) Tryz.underlying46 h6
 simp only[cells_str,List.drop_zero,List.take_succ_cons,List.take_zero]at t0
 simp only[cells_u8,List.drop_succ_cons,List.drop_zero,List.take_succ_cons,List.take_zero]at t1
 simp only[cells_nums,List.drop_succ_cons,List.drop_zero,List.take_succ_cons,List.take_zero]at t2
 simp only[cells_nums,List.drop_succ_cons,List.drop_zero,List.take_succ_cons,List.take_zero]at t3
 obtain⟨ms,e9,_,wms⟩:=DataW.trod_string Tryz.underlying9 t0
 obtain⟨mk,e10,_,_⟩:=DataW.trod_int Tryz.underlying5 t1
 simp at e9 e10
 subst e9 e10
 obtain⟨a1,n1,c1,gs,rfl,r1,w1⟩:=open_nsl t2
 obtain⟨a2,n2,c2,vs,rfl,r2,w2⟩:=open_nsl t3
 obtain rfl:=isl_len rn
 obtain rfl:=nsl_len rv
 obtain rfl:=isl_len ri
 obtain rfl:=nsl_len r1
 obtain rfl:=nsl_len r2
 have hy5':y5.1=.agg [z0.1,z1.1,z2.1]:=by rw[hy5]
 have hy6':y6.1=.agg [u0.1,u1.1,u2.1,u3.1]:=by rw[hy6]
 rw[hy]at hz
 simp only[DataW.weights,Tryz.underlying48,DataW.weightsEach,List.map_cons,List.map_nil,List.mem_append]at hz
 have hz1:=fun x hx=>hz x (Or.inr (Or.inl hx))
 have hz2:=fun x hx=>hz x (Or.inr (Or.inr (Or.inl hx)))
 have hz6:=fun x hx=>hz x (Or.inr (Or.inr (Or.inr (Or.inr (Or.inr (Or.inr (Or.inl hx)))))))
 have hz5:=fun x hx=>hz x (Or.inr (Or.inr (Or.inr (Or.inr (Or.inr (Or.inl hx))))))
 rw[hy5']at hz5
 simp only[DataW.weights,Tryz.underlying44,DataW.weightsEach,List.map_cons,List.map_nil,List.mem_append]at hz5
 have hw5:=w5 (fun x hx=>hz5 x (Or.inr (Or.inl hx)))
 have hw6:=w6 (fun x hx=>hz5 x (Or.inr (Or.inr (Or.inl hx))))
 rw[hy6']at hz6
 simp only[DataW.weights,Tryz.underlying46,DataW.weightsEach,List.map_cons,List.map_nil,List.mem_append]at hz6
 have hw1:=w1 (fun x hx=>hz6 x (Or.inr (Or.inr (Or.inl hx))))
 have hw2:=w2 (fun x hx=>hz6 x (Or.inr (Or.inr (Or.inr (Or.inl hx)))))
 have hwn:=wn hz2
 have hnm:s.size<=reachBytes:=hz1 _ (by
  rw[d1]
  simp[DataW.weights])
 refine⟨⟨k,s.data.toList,nds,an,cn,rf,m,x,wk,wvl,av,cv,wsl,ai,ci,⟨ms.data.toList,mk,gs,vs⟩,a1,c1,a2,c2⟩,rfl,⟨rn,rv,ri,r1,r2⟩,⟨?_,?_,?_,?_,?_⟩,⟨show nds.length*8<=_ by omega,show wvl.length*16<=_ by omega,show wsl.length*8<=_ by omega,show gs.length*16<=_ by omega,show vs.length*16<=_ by omega⟩,⟨show wvl.length<=_ by omega,show wsl.length<=_ by omega⟩⟩
 ·show nds.length<=_
  omega
 ·show s.data.toList.length<=_
  rw[X.len_list]
  unfold reachBytes at hnm
  omega
 ·show ms.data.toList.length<=_
  rw[X.len_list]
  unfold maxLen at wms
  omega
 ·show gs.length<=_
  omega
 ·show vs.length<=_
  omega
theorem open_devs2 {H:Type}{enc:TypeId×Value->H}{W:World}{fuel:Nat}{c0:Value}{y:DataW H×List MemPlace}(h:DataW.trod enc Tryz.prog W 0 (fun _=>true) true fuel 23 [c0]=some y)(hz:∀x∈y.1.weights Tryz.prog 23,x<=reachBytes) :
  ∃ao n c ds,c0=.slice ao n c/\DsR W (.slice ao n c) ds/\(∀d∈ds,d.sz/\d.fit/\d.wsz)/\n*200<=140737488355328:=by
 rcases open_slice Tryz.underlying23 h with ⟨hcs,hy⟩|⟨a,len,cap,mm,nn,D,Pl,hcs,_,hl,hm,hmm,rfl,hx⟩
 ·simp at hcs
  subst hcs
  exact⟨none,0,0,[],rfl,⟨⟨none,0,rfl,fun h=>absurd h (by decide)⟩,fun d hd=>by cases hd⟩,fun d hd=>(by cases hd),by omega⟩
 ·simp at hcs
  subst hcs
  rw[if_pos rfl]at hmm
  simp only[DataW.weights,Tryz.underlying23,List.mem_cons,List.mem_append]at hz
  have hnb:len*200<=140737488355328:=by
   have h1:=hz _ (Or.inl rfl)
   rw[List.length_map,List.length_range,List.length_map,List.length_range,bytes_dev]at h1
   unfold reachBytes at h1
   omega
  by_cases hN:0<len
  ·have hspot:a.spot=none:=by
    obtain⟨cs',h1,_⟩:=hx 0 (by omega)
    rw[cells_dev]at h1
    obtain⟨_,hlen4,hc⟩:=World.cells?_some h1
    have h0:=hc 0 (by omega)
    simp[Addr.add]at h0
    exact World.cell?_spot (h0.trans (List.getElem?_eq_getElem (by omega)))
   obtain⟨b,off,spot⟩:=a
   simp at hspot
   subst hspot
   haveI:Inhabited DE:=⟨⟨0,[],[],none,0,0,0,0,0,[],none,0,[],none,0,⟨[],0,[],[]⟩,none,0,none,0⟩⟩
   obtain⟨F,hF⟩:=choose_lt (n:=len) (p:=fun i (d:DE)=>(∀j,j<13->W.cell? ⟨b,off+i*13+j,none⟩=some (d.cells.getD j undef))/\d.ok W/\d.sz/\d.fit/\d.wsz) (fun i hi=>by
    obtain⟨cs',h1,h2⟩:=hx i (by omega)
    rw[cells_dev]at h1
    obtain⟨_,hlen4,hc⟩:=World.cells?_some h1
    have hzi:∀x∈(D i).weights Tryz.prog 48,x<=reachBytes:=fun x hx=>hz x (Or.inr (Or.inl (weights_mem_all (List.mem_map.2 ⟨i,List.mem_range.2 hi,rfl⟩) x hx)))
    match cs',hlen4 with
    | [x0,x1,x2,x3,x4,x5,x6,x7,x8,x9,x10,x11,x12],_=>
     obtain⟨d,hd,hok,hsz⟩:=open_dev2 h2 hzi
     refine⟨d,fun j hj=>?_,hok,hsz⟩
     have add4:∀q j,((⟨b,off,none⟩:Addr).add q).add j=⟨b,off+q+j,none⟩:=fun q j=>by
      unfold Addr.add
      by_cases hi0:q=0 <;> by_cases hj0:j=0 <;> simp[hi0,hj0]
     have cj:=hc j (by omega)
     rw[add4,hd]at cj
     rw[cj,List.getD_eq_getElem?_getD]
     have:j<d.cells.length:=hj
     rw[List.getElem?_eq_getElem this]
     rfl)
   have hblt:b<W.heap.size:=World.block_lt_of_cell? W _ (by have:=(hF 0 hN).1 0 (by omega);exact this)
   refine⟨some ⟨b,off,none⟩,len,cap,(List.range len).map F,rfl,⟨⟨some ⟨b,off,none⟩,cap,by simp,fun _=>⟨b,off,rfl,hblt,fun j hj i hi=>?_⟩⟩,?_⟩,?_,hnb⟩
   ·have hj':j<len:=by simpa using hj
    rw[(hF j hj').1 i hi]
    rw[List.getD_eq_getElem?_getD (l:=List.map DE.cells _),List.getElem?_map,List.getElem?_map,List.getElem?_range hj']
    rfl
   ·intro d hd
    obtain⟨i,hi,rfl⟩:=List.mem_map.1 hd
    exact(hF i (List.mem_range.1 hi)).2.1
   ·intro d hd
    obtain⟨i,hi,rfl⟩:=List.mem_map.1 hd
    exact(hF i (List.mem_range.1 hi)).2.2
  ·obtain rfl:len=0:=by omega
   exact⟨some a,0,cap,[],rfl,⟨⟨some a,cap,rfl,fun h=>absurd h (by decide)⟩,fun d hd=>by cases hd⟩,fun d hd=>(by cases hd),by omega⟩
theorem open_Flat2 {H:Type}{enc:TypeId×Value->H}{W:World}{r:Reach}{b0:Nat}{v:Value}{d:DataW H}{p:List MemPlace}(hv:Value.okWide Tryz.prog W r b0 27 v)
  (h:DataW.Trod enc Tryz.prog W 0 (fun _=>true) true 27 v d p) (hz:∀x∈d.weights Tryz.prog 27,x<=reachBytes) :
  ∃(fa:Option Addr) (fn fc:Nat) (da:Option Addr) (dn dc:Nat) (fm fx fk:Int) (ns:List (List UInt8)) (ds:List DE),v=.agg #[.slice fa fn fc,.slice da dn dc,.int .i64 fm,.int .i64 fx,.int .i64 fk]/\RS W (.slice fa fn fc) ns/\fn<=fc/\fc<=9223372036854775807/\(∀x∈ns,x.length<=4611686018427387903)/\DsR W (.slice da dn dc) ds/\(∀d∈ds,d.sz/\d.fit/\d.wsz)/\dn*200<=140737488355328/\fn*16<=140737488355328:=by
 obtain⟨cs,rfl,hsz⟩:=okWide_struct Tryz.underlying27 hv
 obtain⟨c0,c1,c2,c3,c4,rfl⟩:=array5 (hsz.trans cells_flat)
 obtain⟨fuel,hf⟩:=h
 obtain⟨y0,y1,y2,y3,q,hy,_,h0,h1,h2,h3⟩:=trod_struct4 (cs:=[c0,c1,c2,c3,c4]) Tryz.underlying27 hf
 simp only[cells_strs,List.drop_zero,List.take_succ_cons,List.take_zero]at h0
 simp only[cells_devs,List.drop_succ_cons,List.drop_zero,List.take_succ_cons,List.take_zero]at h1
 simp only[cells_num,List.drop_succ_cons,List.drop_zero,List.take_succ_cons,List.take_zero]at h2
 simp only[cells_i,List.drop_succ_cons,List.drop_zero,List.take_succ_cons,List.take_zero]at h3
 obtain⟨fm,fx,rfl,rfl,_,_⟩:=open_pair h2
 obtain⟨fk,e4,_,_⟩:=DataW.trod_int Tryz.underlying3 h3
 simp at e4
 subst e4
 have hy':d=.agg [y0.1,y1.1,y2.1,y3.1]:=congrArg Prod.fst hy
 rw[hy']at hz
 simp only[DataW.weights,Tryz.underlying27,DataW.weightsEach,List.map_cons,List.map_nil,List.mem_append]at hz
 obtain⟨fa,fn,fc,ns,rfl,r1,r2,r3,r4⟩:=open_names h0 (fun x hx=>hz x (Or.inl hx))
 obtain⟨da,dn,dc,ds,rfl,s1,s2,s3⟩:=open_devs2 h1 (fun x hx=>hz x (Or.inr (Or.inl hx)))
 obtain⟨_,_,_,_,er,_,_,_,_,r5⟩:=open_rs h0
 simp only[Value.slice.injEq]at er
 obtain⟨rfl,rfl,rfl⟩:=er
 have h5:=r5 (fun x hx=>hz x (Or.inl hx))
 exact⟨fa,fn,fc,da,dn,dc,fm,fx,fk,ns,ds,rfl,r1,r2,r3,r4,s1,s2,s3,by omega⟩
end V
end Go.Proofs.YtdjhmgmjiglcbaaGreatDoor

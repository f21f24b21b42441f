/- shuntlaw07.awake. CardBack's walk. shuntlaw07's lent and whole. A card that came in as an argument: what its reading gives the walks; how long its lists may be. -/
import Derived.Test.YtembglnonhlnkaaGreatDoorGbe
import Derived.Test.YtembglnonhlnkaaGreatDoorGbd
import Derived.Test.YtembglnonhlnkaaGreatDoorGbf
import Derived.Test.YtembglnonhlnkaaGreatDoorGao
import Derived.Lib.SmallJoins
namespace Go.Proofs.YtembglnonhlnkaaGreatDoor
open Go.RowKit
namespace V
open Q (hid' parseOf Lett ErrV Tab okN textOf)
open X (bs OwnS RS strs bs_list bs_size)
theorem rs_lit (w:World) (ws:List (List UInt8)) (n:Nat) (hn:n = ws.length):RS (w.alloc (.cells (strs ws).toArray 9)) (.slice (some ⟨w.heap.size,0,none⟩) n n) ws:=by
 subst hn
 refine ⟨_,_,rfl,fun _ => ⟨w.heap.size,0,rfl,by simp,fun j hj => ?_⟩⟩
 have hr:=World.rowIs_alloc w (strs ws).toArray 9 (fun i => .string (bs (ws.getD i []))) (fun i hi => by
  have hi':i < ws.length:=by simpa [strs] using hi
  have:=X.strs_at ws i hi'
  simpa using this)
 rw [Nat.zero_add]
 exact hr.cell (by simpa [strs] using hj)
def awW:List (List UInt8):=[[114,49],[97],[48],[52,46,55,107]]
def awC:Cd:=⟨[114,49],[[97],[48]],[],(47,2),0,[],[]⟩
def awT:List (List UInt8):=[[114,49],[97],[48],[52,55,48,48]]
def awM:List (List UInt8):=[[46,109,111,100,101,108],[100,49],[100],[49,117],[48,46,55],[49,48,48,109]]
def awD:Md:=⟨[100,49],100,[(1,-6),(1,-1)],[(7,-1)]⟩
theorem aw1:readC awW = .ok awC:=by kernel_rfl
theorem aw2:writeC awC = some awT:=by kernel_rfl
theorem aw3:readM awM = .ok awD:=by kernel_rfl
theorem aw4:cwords awC = awT:=by kernel_rfl
set_option maxRecDepth 100000 in
set_option maxHeartbeats 8000000 in
theorem awake7_any (w:World) (hL:Lett w) (hE:ErrV w) (hT:Tab w):Calls Tryz.prog 9 #[] w fun e w' => Kept w w'∧e = .returned (.bool true):=by
 have HG:=hid' (And.intro hL (And.intro hE hT))
 clear hL hE hT
 go_enter Tryz.func9,Tryz.ntmps9
 go_wp2_with fail
 have hk0:=(Kept.refl w).alloc (.cells (strs awW).toArray 9)
 have hrs:=rs_lit w awW 4 rfl
 have hrd:=readC_any (some ⟨w.heap.size,0,none⟩) 4 4 awW _ (HG.out.1.kept hk0) (HG.out.2.1.kept hk0) hrs (Nat.le_refl _) (by omega) (by decide)
 rw [aw1] at hrd
 refine hrd.mono ?_
 rintro e w1 ⟨hk1,hres⟩
 obtain ⟨v,rfl,nv,xv,sv,rfl,o1,o2,o3⟩:=hres
 have HK:=hid' (hk0.trans hk1)
 clear hk0 hk1 hrs hrd
 obtain ⟨b1,l1,rfl⟩:=own_shape o1
 obtain ⟨b2,l2,rfl⟩:=own_shape o2
 obtain ⟨b3,l3,rfl⟩:=own_shape o3
 have HO:=hid' (show CdR w1 b1 2 l1 b2 0 l2 b3 0 l3 awC from ⟨X.OwnS.rs o1,OwnN.nsl o2,OwnI.isl o3⟩)
 clear o1 o2 o3
 have e1:cdV awC (.slice b1 awC.nodes.length l1) (.slice b2 awC.vals.length l2) (.slice b3 awC.steps.length l3) = .agg #[.string ⟨#[114,49]⟩,.slice b1 2 l1,.string ⟨#[]⟩,.int .i64 47,.int .i64 2,.int .i64 0,.slice b2 0 l2,.slice b3 0 l3]:=rfl
 rw [e1]
 clear e1
 go_wp2_with fail
 have hk2:=(Kept.refl w1).alloc (.cells #[.string ⟨#[114,49]⟩,.slice b1 2 l1,.string ⟨#[]⟩,.int .i64 47,.int .i64 2,.int .i64 0,.slice b2 0 l2,.slice b3 0 l3] 32)
 have hC:=RowL.alloc 32 w1 [.string ⟨#[114,49]⟩,.slice b1 2 l1,.string ⟨#[]⟩,.int .i64 47,.int .i64 2,.int .i64 0,.slice b2 0 l2,.slice b3 0 l3]
 have hwr:=write_plain b1 b2 b3 2 l1 0 l2 0 l3 awC _ (HG.out.1.kept (HK.out.trans hk2)) (HG.out.2.1.kept (HK.out.trans hk2)) (HG.out.2.2.kept (HK.out.trans hk2)) (HO.out.kept hk2) (by omega) (by decide) (by rw [aw4]; decide) (by decide)
 rw [aw2] at hwr
 have e2:cdV awC (.slice b1 2 l1) (.slice b2 0 l2) (.slice b3 0 l3) = .agg #[.string ⟨#[114,49]⟩,.slice b1 2 l1,.string ⟨#[]⟩,.int .i64 47,.int .i64 2,.int .i64 0,.slice b2 0 l2,.slice b3 0 l3]:=rfl
 rw [e2] at hwr
 generalize w1.alloc (.cells #[.string ⟨#[114,49]⟩,.slice b1 2 l1,.string ⟨#[]⟩,.int .i64 47,.int .i64 2,.int .i64 0,.slice b2 0 l2,.slice b3 0 l3] 32) = W1 at hk2 hC hwr ⊢
 obtain ⟨p,hp⟩:∃ q,q = w1.heap.size:=⟨_,rfl⟩
 rw [← hp] at hC ⊢
 refine hwr.mono ?_
 rintro e w2 ⟨hk3,u,rfl,ou⟩
 obtain ⟨ao,cap,rfl,_,_⟩:=own_cap ou
 have HW:=hid' (And.intro (HK.out.trans (hk2.trans hk3)) (And.intro (hC.kept hk3) (X.OwnS.rs ou)))
 clear hk2 hC hwr hk3 ou e2 hp HK
 go_wp2_with fail
 have hk0:=(Kept.refl w2).alloc (.cells (strs awM).toArray 9)
 have hrs:=rs_lit w2 awM 6 rfl
 have hrm:=readM_any (some ⟨w2.heap.size,0,none⟩) 6 6 awM _ (HG.out.1.kept (HW.out.1.trans hk0)) (HG.out.2.1.kept (HW.out.1.trans hk0)) hrs (by omega) (by decide)
 rw [aw3] at hrm
 refine hrm.mono ?_
 rintro e w3 ⟨hk4,v,rfl,gv,vv,rfl,o1,o2⟩
 obtain ⟨b4,l4,rfl⟩:=own_shape o1
 obtain ⟨b5,l5,rfl⟩:=own_shape o2
 have e3:(Value.agg #[.string (bs awD.name),.int .u8 awD.kind,.slice b4 awD.gs.length l4,.slice b5 awD.vs.length l5]) = .agg #[.string ⟨#[100,49]⟩,.int .u8 100,.slice b4 2 l4,.slice b5 1 l5]:=rfl
 rw [e3]
 have HW:=hid' (And.intro (HW.out.1.trans (hk0.trans hk4)) (And.intro (HW.out.2.1.kept (hk0.trans hk4)) (HW.out.2.2.kept (hk0.trans hk4))))
 have kM:=(Kept.refl w3).alloc (.cells #[.string ⟨#[100,49]⟩,.int .u8 100,.slice b4 2 l4,.slice b5 1 l5] 43)
 have hCm:=HW.out.2.1.kept kM
 have c3:=hCm.cell 3 (.int .i64 47)
 have c4:=hCm.cell 4 (.int .i64 2)
 clear hk0 hrs hrm hk4 o1 o2 e3 hCm
 go_wp2_with fail
 have hM:=Row4.alloc 43 w3 (.string ⟨#[100,49]⟩) (.int .u8 100) (.slice b4 2 l4) (.slice b5 1 l5)
 have hsz:(w3.alloc (.cells #[.string ⟨#[100,49]⟩,.int .u8 100,.slice b4 2 l4,.slice b5 1 l5] 43)).heap.size = w3.heap.size + 1:=by rw [World.size_alloc]
 generalize w3.alloc (.cells #[.string ⟨#[100,49]⟩,.int .u8 100,.slice b4 2 l4,.slice b5 1 l5] 43) = W4 at kM hM c3 c4 hsz ⊢
 rw [← hsz]
 obtain ⟨mb,hmb⟩:∃ q,q = w3.heap.size:=⟨_,rfl⟩
 rw [← hmb] at hM ⊢
 have hk5:=(Kept.refl W4).alloc (.cells (strs awT).toArray 9)
 have hrs:=rs_lit W4 awT 4 rfl
 have htx:=X.texts_any _ _ awT awT _ (HW.out.2.2.kept (kM.trans hk5)) hrs (by decide)
 rw [decide_eq_true (rfl:awT = awT)] at htx
 refine htx.mono ?_
 rintro e w4 ⟨hk6,rfl⟩
 have hM4:=hM.kept (hk5.trans hk6)
 have m1:=hM4.c1
 have m2:=hM4.c2
 have HK:=hid' (HW.out.1.trans (kM.trans (hk5.trans hk6)))
 clear kM hM hsz hmb hk5 hrs htx hk6 hM4 c3 c4
 go_wp2_with fail
 go_ret
 exact ⟨HK.out,rfl⟩
end V
end Go.Proofs.YtembglnonhlnkaaGreatDoor

namespace Go.Proofs.YtembglnonhlnkaaGreatDoor
open Go.RowKit
namespace V
open Q (hid' parseOf Lett ErrV Tab okN textOf)
open X (bs OwnS RS strs bs_list bs_size)
theorem tx_sz2 (p:Int × Int):(tx p).length≤9223372036854775807:=by
 unfold tx
 split
 ·
  rename_i h; have:=(Q.back h).2; omega
 ·
  simp
theorem itoa_sz {s:Int} (h0:0≤s) (h1:s≤1000000000):(Lib.itoa s).length≤9223372036854775807:=by
 rw [Q.itoa_sg,decide_eq_false (by omega)]
 have:(Lib.decDigits s.natAbs).length≤10:=Q.dec_len (by decide) (Nat.lt_of_le_of_lt (show s.natAbs≤1000000000 by omega) (by decide))
 show ([] ++ Lib.decDigits s.natAbs).length≤_
 rw [List.nil_append]
 omega
theorem pwlW_sz:∀ (vs:List (Int × Int)) (ss:List Int),(∀ s ∈ ss,0≤s∧s≤1000000000)→∀ x ∈ pwlW vs ss,x.length≤9223372036854775807
 | [],_,_,x,hx => by simp [pwlW] at hx
 | _ :: _,[],_,x,hx => by simp [pwlW] at hx
 | v :: vs,s :: ss,h,x,hx => by
  rw [pwlW] at hx
  simp only [List.mem_cons] at hx
  rcases hx with rfl | rfl | hx
  ·
   exact itoa_sz (h s (by simp)).1 (h s (by simp)).2
  ·
   exact tx_sz2 v
  ·
   exact pwlW_sz vs ss (fun y hy => h y (by simp [hy])) x hx
theorem obo_sz {vs:List (Int × Int)} {ss:List Int} (h:∀ s ∈ ss,0≤s∧s≤1000000000):∀ x ∈ obo vs ss,x.length≤9223372036854775807:=by
 intro x hx
 unfold obo at hx
 rcases List.mem_append.1 hx with hx | hx
 ·
  obtain ⟨v,_,rfl⟩:=List.mem_map.1 hx; exact tx_sz2 v
 ·
  obtain ⟨s,hs,rfl⟩:=List.mem_map.1 hx; exact itoa_sz (h s hs).1 (h s hs).2
theorem cwords_sz {c:Cd} (h1:c.name.length≤9223372036854775807) (h2:c.ref.length≤9223372036854775807) (h3:∀ x ∈ c.nodes,x.length≤9223372036854775807):∀ x ∈ cwords c,x.length≤9223372036854775807:=by
 intro x hx
 unfold cwords at hx
 rcases List.mem_append.1 hx with hx | hx
 ·
  rcases List.mem_append.1 hx with hx | hx
  ·
   rcases List.mem_append.1 hx with hx | hx
   ·
    rcases List.mem_append.1 hx with hx | hx
    ·
     rw [List.mem_singleton] at hx; subst hx; exact h1
    ·
     exact h3 x hx
   ·
    split at hx
    ·
     rw [List.mem_singleton] at hx; subst hx; exact h2
    ·
     simp at hx
  ·
   split at hx
   ·
    rw [List.mem_singleton] at hx; subst hx; exact tx_sz2 _
   ·
    simp at hx
 ·
  split at hx
  ·
   unfold wwords at hx
   split at hx
   ·
    simp at hx
   ·
    rename_i hw
    have hs:=(okW_fit (show okW c.kind c.vals c.steps = true by simpa using hw)).2.2
    split at hx
    ·
     rcases List.mem_cons.1 hx with rfl | hx
     ·
      decide
     ·
      exact obo_sz hs x hx
    split at hx
    ·
     rcases List.mem_cons.1 hx with rfl | hx
     ·
      decide
     ·
      exact pwlW_sz _ _ hs x hx
    split at hx
    ·
     rcases List.mem_cons.1 hx with rfl | hx
     ·
      decide
     ·
      exact obo_sz hs x hx
    ·
     rcases List.mem_cons.1 hx with rfl | hx
     ·
      decide
     ·
      exact obo_sz hs x hx
  ·
   simp at hx
theorem name_le {x:List UInt8} (h:okName x = true):x.length≤16:=by
 unfold okName at h
 have:=of_decide_eq_true (Bool.and_eq_true _ _ ▸ h).1
 omega
theorem right_lens {c:Cd} (h:RightC c):c.nodes.length≤8∧c.vals.length≤16∧c.steps.length≤16∧c.name.length≤9223372036854775807∧c.ref.length≤9223372036854775807∧∀ x ∈ c.nodes,x.length≤9223372036854775807:=by
 have h1:=h.cnt
 have h2:=h.wav
 have h3:=h.ref
 have h4:=name_le (dev_name h.dev)
 refine ⟨?_,?_,?_,by omega,?_,fun x hx => by have:=name_le (h.nds x hx); omega⟩
 ·
  unfold nodesN at h1
  split at h1
  ·
   have:=of_decide_eq_true h1; omega
  split at h1
  ·
   have:=of_decide_eq_true h1; omega
  ·
   have:=of_decide_eq_true h1; omega
 ·
  split at h2
  ·
   have:=(okW_fit h2).1; omega
  ·
   rw [h2.2.1]; simp
 ·
  split at h2
  ·
   have:=(okW_fit h2).1; omega
  ·
   rw [h2.2.2]; simp
 ·
  split at h3
  ·
   have:=name_le h3.1; omega
  ·
   rw [h3]; simp
end V
end Go.Proofs.YtembglnonhlnkaaGreatDoor

namespace Go.Proofs.YtembglnonhlnkaaGreatDoor
open Go.RowKit
namespace V
open Q (hid')
open X (bs OwnS RS strs bs_list bs_size)
theorem wpList_src {P:Program} {w:World} {ops:Array Oper} {rest:List Oper} {o:Oper} {a:Act} {Q:Exit→Act→World→Prop} (hgd:o.guard = none) (s x:Operand) (t:TypeId)
  (ho:o.op = .call { callee:=.builtin .append,args:=#[s,x],argTypes:=#[t,t] })
  (base:Nat) (e:TypeId) (i:TypeInfo) (zv:Value) (size bytes:Nat) (ht:P.underlying t = some (.slice e)) (hi:P.info? e = some i) (hz:i.zero = some zv)
  (hsize:i.size = size) (hby:i.bytes = bytes) (hzs:zv.cells.size = size) (hsz:0 < size)
  (g0:Nat) (hs:a.eval s = .slice (some ⟨g0,0,none⟩) 0 0) (hown:w.ownsRow base e size (.slice (some ⟨g0,0,none⟩) 0 0) 0 [])
  (ao:Option Addr) (m c:Nat) (news:List Value) (hx:a.eval x = .slice ao m c) (hl:news.length = m * size) (hnews:0 < m→∃ ad,ao = some ad∧∀ j u,news[j]? = some u→w.cell? (ad.add j) = some u) (h1:∀ u ∈ news,u.oneCell' = true)
  (h63:m≤maxLen) (hbytes:m * bytes≤140737488355328) (hbase:base≤w.heap.size)
  (h:∀ g cap w',w'.ownsRow base e size (.slice (some ⟨g,0,none⟩) m cap) m news→w.grownBy w' (some g0)→wpList P ops Q rest (a.put o.dst (.slice (some ⟨g,0,none⟩) m cap)) w'):wpList P ops Q (o :: rest) a w:=by
 by_cases hm:0 < m
 ·
  obtain ⟨ad,rfl,hn⟩:=hnews hm
  exact wpList_append_lies w hgd s x t ho base e i zv size bytes ht hi hz hsize hby hzs hsz _ 0 [] hs hown ad m c news hx hl hn h1 hm (by omega) (by rw [Nat.zero_add]; exact hbytes) hbase _ rfl (fun g cap w' h2 h3 _ _ => by
   have:=h g cap w' (by simpa using h2) h3
   rw [Nat.zero_add]
   exact this)
 ·
  obtain rfl:m = 0:=by omega
  have hn0:news = []:=List.eq_nil_of_length_eq_zero (by simpa using hl)
  subst hn0
  have hr:(Builtin.append_ #[t,t] o.type #[.slice (some ⟨g0,0,none⟩) 0 0,.slice ao 0 c]).run P w = .ok (.slice (some ⟨g0,0,none⟩) 0 0) w:=by
   cases ao <;> simp [Builtin.append_,run_underlying ht,sizeOf,typeInfo,hi,Builtin.lenOf,Builtin.firstCells,loadCells,loadCellsFrom,storeCells]
  refine wpList_plain hgd fun K hK => ?_
  unfold Oper.wp execOp
  simp only [ho,resolve,invoke,builtin,Sem.run_bind,Sem.run_pure,Result.andThen_ok,List.map_toArray,List.map_cons,List.map_nil,hs,hx,hr]
  exact hK _ _ (h g0 0 w hown ⟨rfl,rfl,rfl,Nat.le_refl _,fun _ _ _ => rfl⟩)
theorem own_none (t:TypeId) (sz:Nat) (w:World) (B:Nat) (hB:B≤w.heap.size):(w.alloc (Obj.cells #[] t)).ownsRow B t sz (.slice (some ⟨w.heap.size,0,none⟩) 0 0) 0 []:=by
 refine ⟨by simp,.inr ⟨w.heap.size,0,#[],rfl,hB,?_,Nat.le_refl _,by unfold maxLen; omega,by simp,by simp⟩⟩
 show (w.heap.push _)[w.heap.size]? = _
 simp
theorem own_cap' {B:Nat} {w:World} {g n cap:Nat} {ws:List (List UInt8)} (h:OwnS B w (.slice (some ⟨g,0,none⟩) n cap) ws):ws.length≤cap∧cap≤9223372036854775807:=by
 obtain ⟨_,⟨h2,_⟩ | ⟨_,_,_,h2,_,_,hn,hm,_⟩⟩:=h
 ·
  cases h2
 ·
  simp only [Value.slice.injEq] at h2
  obtain ⟨_,_,rfl⟩:=h2
  exact ⟨hn,hm⟩
def LentW (B:Nat) (w:World) (v:Value) (ws:List (List UInt8)):Prop:=∃ g cap,v = .slice (some ⟨g,0,none⟩) ws.length cap∧OwnS B w (.slice (some ⟨g,0,none⟩) (ws.length + 1) cap) (ws ++ [[33]])
theorem strs_src {w:World} {ao:Option Addr} {n c:Nat} {ws:List (List UInt8)} (h:RS w (.slice ao n c) ws):0 < n→∃ ad,ao = some ad∧∀ j u,(strs ws)[j]? = some u→w.cell? (ad.add j) = some u:=by
 intro h0
 obtain ⟨ao',c',hv,hx⟩:=h
 simp only [Value.slice.injEq] at hv
 obtain ⟨rfl,rfl,rfl⟩:=hv
 obtain ⟨b,off,rfl,hb,hc⟩:=hx h0
 refine ⟨⟨b,off,none⟩,rfl,fun j u hj => ?_⟩
 have hl:j < ws.length:=by
  have:=(List.getElem?_eq_some_iff.1 hj).1
  rw [X.strs_len] at this
  omega
 rw [X.strs_at ws j hl] at hj
 have e:(⟨b,off,none⟩:Addr).add j = ⟨b,off + j,none⟩:=by
  unfold Addr.add
  by_cases hj0:j = 0 <;> simp [hj0]
 rw [e,hc j hl]
 exact hj
set_option maxRecDepth 100000 in
set_option maxHeartbeats 4000000 in
theorem lent7_any (ao:Option Addr) (n c:Nat) (ws:List (List UInt8)) (w:World) (h:RS w (.slice ao n c) ws) (hl:(n + 200) * 16≤140737488355328) :
  Calls Tryz.prog 10 #[.slice ao n c] w fun e w' => Kept w w'∧∃ v,e = .returned v∧LentW w.heap.size w' v ws:=by
 have hn:n = ws.length:=rs_len h
 obtain ⟨i0,hi,hz0,hz1,hz2⟩:=info_parts X.info_str
 have HN:=hid' hn
 have HR:=hid' h
 have hmx:n + 1≤9223372036854775807:=by omega
 clear hn h
 go_enter Tryz.func10,Tryz.ntmps10
 have HO:=hid' (own_none 9 1 w w.heap.size (Nat.le_refl _))
 have HK:=hid' ((Kept.refl w).alloc (Obj.cells #[] 9))
 go_wp2_with (at_builtin; refine wpList_src rfl (.tmp 3) (.tmp 4) 22 rfl w.heap.size 9 i0 (.string ByteArray.empty) 1 16 X.und_strs hi hz0 hz1 hz2 rfl (by decide) w.heap.size rfl HO.out ao n c (strs ws) rfl (by rw [X.strs_len,HN.out]) (strs_src (HR.out.kept HK.out)) (X.strs_one ws) (by unfold maxLen; omega) (by omega) (by simp) ?_)
 intro g cap w1 own1 hg1
 have HK1:=hid' (show Kept w w1 from Below.grown (B:=w.heap.size) HK.out hg1 HK.out.size (fun k hk => by simp at hk; omega))
 clear hg1
 have Hm:=X.cell_new w1 (.string ⟨#[33]⟩) 9
 have KA:=(Kept.refl w1).alloc (.cells #[.string ⟨#[33]⟩] 9)
 have own2:=own_kept own1 (fun b hb => KA.block b (own1.lt b hb).2)
 go_wp2_with (at_builtin; refine wpList_append_lies _ rfl (.tmp 5) (.tmp 6) 22 rfl w.heap.size 9 i0 (.string ByteArray.empty) 1 16 X.und_strs hi hz0 hz1 hz2 rfl (by decide) (.slice (some ⟨g,0,none⟩) n cap) n (strs ws) rfl own2 ⟨w1.heap.size,0,none⟩ 1 1 [.string ⟨#[33]⟩] rfl rfl Hm (fun u hu => by simp at hu; subst hu; rfl) (by omega) (by unfold maxLen; omega) (by omega) (by have:=HK1.out.size; simp; omega) _ rfl ?_)
 intro g4 cap4 W4 own4 hg4 _ _
 have HB:=hid' (And.intro own4 (show Kept w W4 from Below.grown (B:=w.heap.size) (HK1.out.trans KA) hg4 (Nat.le_trans HK1.out.size KA.size) (fun k hk => (own2.lt k hk).1)))
 have hc4:n + 1≤cap4:=by
  obtain ⟨_,⟨h1,_⟩ | ⟨_,_,_,h1,_,_,h2,_⟩⟩:=own4
  ·
   cases h1
  ·
   simp only [Value.slice.injEq] at h1; omega
 have hc5:cap4≤9223372036854775807:=by
  obtain ⟨_,⟨h1,_⟩ | ⟨_,_,_,h1,_,_,_,h2,_⟩⟩:=own4
  ·
   cases h1
  ·
   simp only [Value.slice.injEq] at h1; unfold maxLen at h2; omega
 clear own4 hg4 own1 own2 Hm KA
 go_wp2_with fail
 go_ret
 refine ⟨HB.out.2,_,rfl,g4,cap4,by rw [← HN.out]; rfl,?_⟩
 have:=HB.out.1
 unfold OwnS
 rw [List.length_append,List.length_singleton,← HN.out,X.strs_app]
 exact this
theorem LentW.rs {B:Nat} {w:World} {v:Value} {ws:List (List UInt8)} (h:LentW B w v ws):RS w v ws:=by
 obtain ⟨g,cap,rfl,h⟩:=h
 obtain ⟨g',cap',e,_,hg,_,hc,_⟩:=h.read (by simp)
 simp only [Value.slice.injEq,Option.some.injEq,Addr.mk.injEq] at e
 obtain ⟨⟨rfl,_⟩,_,rfl⟩:=e
 refine ⟨_,_,rfl,fun h0 => ⟨g,0,rfl,hg,fun j hj => ?_⟩⟩
 rw [Nat.zero_add,hc j (by rw [List.length_append]; omega)]
 congr 3
 rw [List.getD_eq_getElem?_getD,List.getD_eq_getElem?_getD,List.getElem?_append_left hj]
theorem LentW.kept {B:Nat} {w w':World} {v:Value} {ws:List (List UInt8)} (h:LentW B w v ws) (k:Kept w w'):LentW B w' v ws:=by
 obtain ⟨g,cap,rfl,h⟩:=h
 exact ⟨g,cap,rfl,h.kept k⟩
set_option maxRecDepth 100000 in
set_option maxHeartbeats 4000000 in
theorem whole7_any (B:Nat) (v:Value) (ao:Option Addr) (n c:Nat) (ws:List (List UInt8)) (w:World) (hv:LentW B w v ws) (h:RS w (.slice ao n c) ws) (hl:n≤1000000000000000000) :
  Calls Tryz.prog 14 #[v,.slice ao n c] w fun e w' => Kept w w'∧e = .returned (.bool true):=by
 have hn:n = ws.length:=rs_len h
 have htx:=X.texts_any v (.slice ao n c) ws ws w hv.rs h (by omega)
 rw [decide_eq_true rfl] at htx
 obtain ⟨g,cap,rfl,ho⟩:=hv
 have hc:=own_cap' ho
 have HO:=hid' ho
 rw [← hn] at htx ⊢
 have HN:=hid' hn
 rw [List.length_append,List.length_singleton,← hn] at hc
 clear h hn ho
 go_enter Tryz.func14,Tryz.ntmps14
 go_wp2_with fail
 refine htx.mono ?_
 rintro e w1 ⟨hk,rfl⟩
 have q:=(HO.out.kept hk).read (by simp)
 obtain ⟨g',cap',e,_,hg,_,hcell,_⟩:=q
 simp only [Value.slice.injEq,Option.some.injEq,Addr.mk.injEq] at e
 obtain ⟨⟨rfl,_⟩,_,rfl⟩:=e
 have q:=hcell n (by rw [List.length_append,HN.out]; simp)
 have hq:(ws ++ [[33]]).getD n [] = ([33]:List UInt8):=by rw [List.getD_eq_getElem?_getD,List.getElem?_append_right (by rw [HN.out]; exact Nat.le_refl _),HN.out,Nat.sub_self]; rfl
 rw [hq] at q
 have e33:(bs [33]).toList = [33]:=by rw [ByteArray.toList_eq,bs_list]
 have e33':((bs [33]).toList == [33]) = true:=by rw [e33]; rfl
 generalize bs [33] = t33 at q e33 e33'
 clear hq
 have HK:=hid' hk
 have h1:n + 1≤cap:=hc.1
 have h2:cap≤9223372036854775807:=hc.2
 clear hk hcell hg hc htx
 go_wp2_with fail
 go_ret
 exact ⟨HK.out,rfl⟩
end V
end Go.Proofs.YtembglnonhlnkaaGreatDoor

namespace Go.Proofs.YtembglnonhlnkaaGreatDoor
open Go.ChangeShapes Go.WideShapes Go.ChangeAt Go.RowKit Go.Joins Go.Deep
namespace V
open X (bs RS)
theorem cells_card:Tryz.prog.cellsOf 32 = 8:=by kernel_rfl
theorem cells_wave:Tryz.prog.cellsOf 30 = 3:=by kernel_rfl
theorem cells_ints:Tryz.prog.cellsOf 28 = 1:=by kernel_rfl
theorem cells_strs:Tryz.prog.cellsOf 22 = 1:=by kernel_rfl
theorem bytes_int:Tryz.prog.bytesOf 3 = 8:=by kernel_rfl
theorem bytes_str:Tryz.prog.bytesOf 9 = 16:=by kernel_rfl
theorem array8 {α:Type} {cs:Array α} (h:cs.size = 8):∃ c0 c1 c2 c3 c4 c5 c6 c7,cs = #[c0,c1,c2,c3,c4,c5,c6,c7]:=by
 obtain ⟨l⟩:=cs
 match l,h with
 | [c0,c1,c2,c3,c4,c5,c6,c7],_ => exact ⟨c0,c1,c2,c3,c4,c5,c6,c7,rfl⟩
theorem trod_struct5 {H:Type} {enc:TypeId × Value→H} {P:Program} {w:World} {base:Nat} {spare:Nat→Bool} {held:Bool} {t:TypeId} {f0 f1 f2 f3 f4:Field} {fuel:Nat} {cs:List Value} {x:DataW H × List MemPlace} (ht:P.underlying t = some (.struct #[f0,f1,f2,f3,f4])) (h:DataW.trod enc P w base spare held fuel t cs = some x) :
  ∃ y0 y1 y2 y3 y4 n,x = (.agg [y0.1,y1.1,y2.1,y3.1,y4.1],y0.2 ++ (y1.2 ++ (y2.2 ++ (y3.2 ++ y4.2))))∧DataW.trod enc P w base spare held n f0.type ((cs.drop f0.offset).take (P.cellsOf f0.type)) = some y0 ∧
   DataW.trod enc P w base spare held n f1.type ((cs.drop f1.offset).take (P.cellsOf f1.type)) = some y1∧DataW.trod enc P w base spare held n f2.type ((cs.drop f2.offset).take (P.cellsOf f2.type)) = some y2 ∧
   DataW.trod enc P w base spare held n f3.type ((cs.drop f3.offset).take (P.cellsOf f3.type)) = some y3∧DataW.trod enc P w base spare held n f4.type ((cs.drop f4.offset).take (P.cellsOf f4.type)) = some y4:=by
 obtain ⟨xs,n,_,rfl,hl,hlen,hf⟩:=DataW.trod_struct ht h
 match xs,hlen with
 | [y0,y1,y2,y3,y4],_ => exact ⟨y0,y1,y2,y3,y4,n,by simp,by simpa using hf 0 f0 rfl,by simpa using hf 1 f1 rfl,by simpa using hf 2 f2 rfl,by simpa using hf 3 f3 rfl,by simpa using hf 4 f4 rfl⟩
theorem isl_of_open {W:World} {a:Addr} {len cap:Nat} {zs:List Int} (hl:len≤cap) (hz:zs.length = cap) (hcell:∀ i,i < zs.length→W.cell? (a.add i) = some (.int .i64 (zs.getD i 0))):∃ l,l.length = len∧ISl W (.slice (some a) len cap) l:=by
 have hlen:(zs.take len).length = len:=by rw [List.length_take]; omega
 refine ⟨zs.take len,hlen,some a,cap,by rw [hlen],fun h0 => ?_⟩
 rw [hlen] at h0 ⊢
 obtain ⟨b,off,spot⟩:=a
 have hc0:=hcell 0 (by omega)
 have hspot:spot = none:=by simpa [Addr.add] using World.cell?_spot hc0
 subst hspot
 refine ⟨b,off,rfl,World.block_lt_of_cell? W _ (by simpa [Addr.add] using hc0),fun j hj => ?_⟩
 have hcj:=hcell j (by omega)
 have e1:(zs.take len).getD j 0 = zs.getD j 0:=by
  rw [List.getD_eq_getElem?_getD,List.getElem?_take_of_lt hj,List.getD_eq_getElem?_getD]
 rw [e1,← hcj]
 by_cases hj0:j = 0
 ·
  subst hj0; rfl
 ·
  simp [Addr.add,hj0]
theorem open_isl {H:Type} {enc:TypeId × Value→H} {W:World} {fuel:Nat} {c0:Value} {y:DataW H × List MemPlace} (h:DataW.trod enc Tryz.prog W 0 (fun _ => true) true fuel 28 [c0] = some y) :
  ∃ ao n c l,c0 = .slice ao n c∧ISl W (.slice ao n c) l∧((∀ x ∈ y.1.weights Tryz.prog 28,x≤reachBytes)→(n + 256) * 8≤140737488355328):=by
 rcases open_slice Tryz.underlying28 h with ⟨hcs,hy⟩ | ⟨a,len,cap,mm,nn,D,Pl,hcs,_,_,_,_,rfl,_⟩
 ·
  simp at hcs
  subst hcs
  exact ⟨none,0,0,[],rfl,⟨none,0,rfl,fun h => absurd h (by decide)⟩,fun _ => by omega⟩
 ·
  simp at hcs
  subst hcs
  rcases open_ints Tryz.underlying28 Tryz.underlying3 cells_i h with ⟨hcs,_⟩ | ⟨a',len',cap',zs,hcs,_,hl,hm,hz,_,hcell,hwz⟩
  ·
   simp at hcs
  ·
   simp at hcs
   obtain ⟨rfl,rfl,rfl⟩:=hcs
   obtain ⟨l,hll,hs⟩:=isl_of_open hl (by simpa using hz) hcell
   refine ⟨some a,len,cap,l,rfl,hs,fun hx => ?_⟩
   unfold reachBytes at hx
   have:=hx ((len + (mm - len)) * 8) (by simp [DataW.weights,Tryz.underlying28,bytes_int])
   omega
theorem open_nsl {H:Type} {enc:TypeId × Value→H} {W:World} {fuel:Nat} {c0:Value} {y:DataW H × List MemPlace} (h:DataW.trod enc Tryz.prog W 0 (fun _ => true) true fuel 27 [c0] = some y) :
  ∃ ao n c l,c0 = .slice ao n c∧NSl W (.slice ao n c) l∧((∀ x ∈ y.1.weights Tryz.prog 27,x≤reachBytes)→(n + 256) * 16≤140737488355328):=by
 rcases open_slice Tryz.underlying27 h with ⟨hcs,hy⟩ | ⟨a,len,cap,mm,nn,D,Pl,hcs,_,_,_,_,rfl,_⟩
 ·
  simp at hcs
  subst hcs
  exact ⟨none,0,0,[],rfl,⟨none,0,rfl,fun h => absurd h (by decide)⟩,fun _ => by omega⟩
 ·
  simp at hcs
  subst hcs
  obtain ⟨l,hs,_⟩:=open_nums h
  refine ⟨some a,len,cap,l,rfl,hs,fun hx => ?_⟩
  unfold reachBytes at hx
  have:=hx ((len + (mm - len)) * 16) (by simp [DataW.weights,Tryz.underlying27,bytes_num])
  omega
theorem open_rs {H:Type} {enc:TypeId × Value→H} {W:World} {fuel:Nat} {c0:Value} {y:DataW H × List MemPlace} (h:DataW.trod enc Tryz.prog W 0 (fun _ => true) true fuel 22 [c0] = some y) :
  ∃ ao n c l,c0 = .slice ao n c∧RS W (.slice ao n c) l∧n≤c∧c≤9223372036854775807∧(∀ x ∈ l,x.length≤9223372036854775807)∧((∀ x ∈ y.1.weights Tryz.prog 22,x≤reachBytes)→(n + 256) * 16≤140737488355328):=by
 obtain ⟨ao,n,c,rfl⟩:∃ ao n c,c0 = .slice ao n c:=by
  rcases open_slice Tryz.underlying22 h with ⟨hcs,_⟩ | ⟨a,len,cap,_,_,_,_,hcs,_⟩
  ·
   simp at hcs; exact ⟨_,_,_,hcs⟩
  ·
   simp at hcs; exact ⟨_,_,_,hcs⟩
 obtain ⟨ao',n',c',ws,e,h1,h2,h3,h4⟩:=words_of h
 simp at e
 obtain ⟨rfl,rfl,rfl⟩:=e
 refine ⟨ao,n,c,ws,rfl,h1,h2,h3,h4,fun hx => ?_⟩
 rcases open_slice Tryz.underlying22 h with ⟨hcs,_⟩ | ⟨a,len,cap,mm,nn,D,Pl,hcs,_,_,_,_,rfl,_⟩
 ·
  simp at hcs
  obtain ⟨_,rfl,_⟩:=hcs
  omega
 ·
  simp at hcs
  obtain ⟨_,rfl,_⟩:=hcs
  unfold reachBytes at hx
  have:=hx ((n + (mm - n)) * 16) (by simp [DataW.weights,Tryz.underlying22,bytes_str])
  omega
set_option maxRecDepth 100000 in
theorem open_Card {H:Type} {enc:TypeId × Value→H} {W:World} {r:Reach} {b0:Nat} {v:Value} {d:DataW H} {p:List MemPlace} (hv:Value.okWide Tryz.prog W r b0 32 v)
  (h:DataW.Trod enc Tryz.prog W 0 (fun _ => true) true 32 v d p) (hz:∀ x ∈ d.weights Tryz.prog 32,x≤reachBytes) :
  ∃ (a1 a2 a3:Option Addr) (n1 k1 n2 k2 n3 k3:Nat) (c:Cd),v = cdV c (.slice a1 n1 k1) (.slice a2 n2 k2) (.slice a3 n3 k3)∧CdR W a1 n1 k1 a2 n2 k2 a3 n3 k3 c∧n1≤k1∧k1≤9223372036854775807 ∧
   c.name.length≤9223372036854775807∧c.ref.length≤9223372036854775807∧(∀ x ∈ c.nodes,x.length≤9223372036854775807)∧(n1 + 256) * 16≤140737488355328∧(n2 + 256) * 16≤140737488355328∧(n3 + 256) * 8≤140737488355328:=by
 obtain ⟨cs,rfl,hsz⟩:=okWide_struct Tryz.underlying32 hv
 obtain ⟨c0,c1,c2,c3,c4,c5,c6,c7,rfl⟩:=array8 (hsz.trans cells_card)
 obtain ⟨fuel,hf⟩:=h
 obtain ⟨y0,y1,y2,y3,y4,q,hy,h0,h1,h2,h3,h4⟩:=trod_struct5 (cs:=[c0,c1,c2,c3,c4,c5,c6,c7]) Tryz.underlying32 hf
 simp only [cells_str,List.drop_zero,List.take_succ_cons,List.take_zero] at h0
 simp only [cells_strs,List.drop_succ_cons,List.drop_zero,List.take_succ_cons,List.take_zero] at h1
 simp only [cells_str,List.drop_succ_cons,List.drop_zero,List.take_succ_cons,List.take_zero] at h2
 simp only [cells_num,List.drop_succ_cons,List.drop_zero,List.take_succ_cons,List.take_zero] at h3
 simp only [cells_wave,List.drop_succ_cons,List.drop_zero,List.take_succ_cons,List.take_zero] at h4
 obtain ⟨s0,e0,_,ws0⟩:=DataW.trod_string Tryz.underlying9 h0
 obtain ⟨s2,e2,_,ws2⟩:=DataW.trod_string Tryz.underlying9 h2
 simp at e0 e2
 subst e0 e2
 obtain ⟨m,x,rfl,rfl,_,_⟩:=open_pair h3
 obtain ⟨z0,z1,z2,q',hy4,_,g0,g1,g2⟩:=trod_struct3 (cs:=[c5,c6,c7]) Tryz.underlying30 h4
 simp only [cells_i,List.drop_zero,List.take_succ_cons,List.take_zero] at g0
 simp only [cells_nums,List.drop_succ_cons,List.drop_zero,List.take_succ_cons,List.take_zero] at g1
 simp only [cells_ints,List.drop_succ_cons,List.drop_zero,List.take_succ_cons,List.take_zero] at g2
 obtain ⟨k,e5,_,wk⟩:=DataW.trod_int Tryz.underlying3 g0
 simp at e5
 subst e5
 obtain ⟨a1,n1,k1,l1,rfl,r1,x1,x2,x3,x4⟩:=open_rs h1
 obtain ⟨a2,n2,k2,l2,rfl,r2,y2'⟩:=open_nsl g1
 obtain ⟨a3,n3,k3,l3,rfl,r3,y3'⟩:=open_isl g2
 simp only [Prod.mk.injEq] at hy
 obtain ⟨rfl,_⟩:=hy
 have hy4':y4.1 = .agg [z0.1,z1.1,z2.1]:=by rw [hy4]
 rw [hy4'] at hz
 have hw1:=x4 (fun x hx => hz x (by
  simp only [DataW.weights,Tryz.underlying32,DataW.weightsEach,List.map_cons,List.mem_append]
  exact Or.inr (Or.inl hx)))
 have hw2:=y2' (fun x hx => hz x (by
  simp only [DataW.weights,Tryz.underlying32,Tryz.underlying30,DataW.weightsEach,List.map_cons,List.mem_append]
  exact Or.inr (Or.inr (Or.inr (Or.inr (Or.inl (Or.inr (Or.inl hx))))))))
 have hw3:=y3' (fun x hx => hz x (by
  simp only [DataW.weights,Tryz.underlying32,Tryz.underlying30,DataW.weightsEach,List.map_cons,List.mem_append]
  exact Or.inr (Or.inr (Or.inr (Or.inr (Or.inl (Or.inr (Or.inr (Or.inl hx)))))))))
 refine ⟨a1,a2,a3,n1,k1,n2,k2,n3,k3,⟨s0.data.toList,l1,s2.data.toList,(m,x),k,l2,l3⟩,rfl,⟨r1,r2,r3⟩,x1,x2,?_,?_,x3,hw1,hw2,hw3⟩
 ·
  show s0.data.toList.length≤_
  rw [X.len_list]; unfold maxLen at ws0; omega
 ·
  show s2.data.toList.length≤_
  rw [X.len_list]; unfold maxLen at ws2; omega
end V
end Go.Proofs.YtembglnonhlnkaaGreatDoor

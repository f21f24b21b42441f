/- Divide of shuntref01: its plain mathematics; an append of nothing. Divide of shuntref01: digit by digit from the top. Common of shuntref01: the greatest common divisor, by Euclid. Divide and Common of shuntref01, told as whole numbers. Divide of shuntref01: the quotient's digits are new. -/
import Derived.Test.YtdcgdpbgnijnpaaGreatGak
import Derived.Laws.OwnMore
namespace Go.Proofs.YtdcgdpbgnijnpaaGreat.D
open Go.RowKit
theorem run_append_nil {P:Program} {w:World} (base:Nat) (t ty e:TypeId) (i:TypeInfo) (size c:Nat) (ht:P.underlying t = some (.slice e)) (hi:P.info? e = some i)
  (v:Value) (n:Nat) (xs:List Value) (hown:w.ownsRow base e size v n xs) :
  (Builtin.append_ #[t,t] ty #[v,.slice none 0 c]).run P w = .ok v w:=by
 rcases hown.2 with ⟨rfl,rfl⟩ | ⟨g,cap,cur,rfl,_,_,hnc,_⟩
 ·
  simp [Builtin.append_,run_underlying ht,sizeOf,typeInfo,hi,Builtin.lenOf,Builtin.firstCells]
 ·
  simp [Builtin.append_,run_underlying ht,sizeOf,typeInfo,hi,Builtin.lenOf,Builtin.firstCells,hnc,storeCells]
theorem wpList_append_nil {P:Program} {w:World} {ops:Array Oper} {rest:List Oper} {o:Oper} {a:Act} {Q:Exit→Act→World→Prop} (hgd:o.guard = none) (s x:Operand) (t:TypeId)
  (ho:o.op = .call { callee:=.builtin .append,args:=#[s,x],argTypes:=#[t,t] })
  (base:Nat) (e:TypeId) (i:TypeInfo) (size c:Nat) (ht:P.underlying t = some (.slice e)) (hi:P.info? e = some i)
  (v:Value) (n:Nat) (xs:List Value) (hs:a.eval s = v) (hown:w.ownsRow base e size v n xs) (hx:a.eval x = .slice none 0 c)
  (h:wpList P ops Q rest (a.put o.dst v) w):wpList P ops Q (o :: rest) a w:=by
 refine wpList_plain hgd fun K hK => ?_
 have hrun:=run_append_nil (P:=P) (w:=w) base t o.type e i size c ht hi v n xs hown
 unfold Oper.wp
 simp [execOp,ho,resolve,invoke,builtin,hs,hx,hrun,Result.andThen]
 exact hK _ _ h
theorem quo_step {a o:List Nat} {i A B R x q R':Nat} (hi:i < a.length) (hio:i < o.length) (hx:x = a.getD i 0) (hB:0 < B) (h:D.val (a.drop (i + 1)) = D.val (o.drop (i + 1)) * B + R) (hq:q = (x + 65536 * R) / B) (hR:R' = (x + 65536 * R) % B) (hA:A = D.val (a.drop i)) :
  A = D.val ((o.set i q).drop i) * B + R'∧R' < B:=by
 have e1:=D.drop_getD a i hi
 have e2:(o.set i q).drop i = q :: o.drop (i + 1):=by
  rw [List.drop_eq_getElem_cons (by rw [List.length_set]; exact hio)]
  simp [List.drop_set]
 have e3:=Nat.div_add_mod (x + 65536 * R) B
 rw [← hq,← hR] at e3
 rw [e2,D.val,hA,e1,← hx,h]
 refine ⟨?_,by rw [hR]; exact Nat.mod_lt _ hB⟩
 clear e1 e2 h hA hx
 generalize D.val (o.drop (i + 1)) = O at *
 have e4:(q + 65536 * O) * B = B * q + 65536 * (O * B):=by grind
 rw [e4]
 generalize B * q = Z at *
 generalize O * B = Y at *
 omega
theorem row_zeros (w:World) (n:Nat):(w.alloc (.cells (madeCells #[.int .i64 0] n) 3)).rowIs w.heap.size 3 n (fun j => .int .i64 (((List.replicate n 0).getD j 0:Nat):Int)) :=
 (D.row_made w n).congr (fun j _ => by
  rw [List.getD_eq_getElem?_getD,List.getD_eq_getElem?_getD,List.getElem?_replicate]
  split <;> simp)
theorem int_tdiv {m n:Bool} {a b q r:List Nat} (h:D.val a = D.val q * D.val b + D.val r) (hlt:D.val r < D.val b):int (m != n) q = Int.tdiv (int m a) (int n b)∧int m r = Int.tmod (int m a) (int n b):=by
 have hq:D.val a / D.val b = D.val q:=by rw [h,Nat.mul_comm,Nat.mul_add_div (by omega),Nat.div_eq_of_lt hlt]; rfl
 have hr:D.val a % D.val b = D.val r:=by rw [h,Nat.mul_comm,Nat.mul_add_mod,Nat.mod_eq_of_lt hlt]
 have e1:Int.tdiv (D.val a:Int) (D.val b:Int) = ((D.val q:Nat):Int):=by rw [← Int.ofNat_tdiv,hq]
 have e2:Int.tmod (D.val a:Int) (D.val b:Int) = ((D.val r:Nat):Int):=by rw [← Int.ofNat_tmod,hr]
 unfold int
 cases m <;> cases n <;> simp [Int.tdiv_neg,Int.neg_tdiv,Int.tmod_neg,Int.neg_tmod,e1,e2]
end Go.Proofs.YtdcgdpbgnijnpaaGreat.D

namespace Go.Proofs.YtdcgdpbgnijnpaaGreat.D
open Go.RowKit
def DivRes (B:Nat) (w':World) (e:Ending) (m n:Bool) (a b:List Nat):Prop :=
 ∃ s aq kq cq q t ar kr cr r,e = .returned (.tuple #[.agg #[.bool s,.slice aq kq cq],.agg #[.bool t,.slice ar kr cr]])∧NewE B w' (.slice aq kq cq) q∧NewE B w' (.slice ar kr cr) r∧D.Right s q∧D.Right t r∧D.val a = D.val q * D.val b + D.val r∧D.val r < D.val b∧int s q = int (m != n) q∧int t r = int m r
theorem Sl.shape {w:World} {v:Value} {l:List Nat} (h:Sl w v l):∃ ao cap,v = .slice ao l.length cap:=by
 obtain ⟨_,ao,cap,rfl,_⟩:=h
 exact ⟨ao,cap,rfl⟩
theorem box_kept4 {w w1:World} {c0 c1 d0 d1 e0 e1 f0 f1:Value} {t u x y:TypeId} (h:Kept ((((w.alloc (.cells #[c0,c1] t)).alloc (.cells #[d0,d1] u)).alloc (.cells #[e0,e1] x)).alloc (.cells #[f0,f1] y)) w1) :
  w1.cell? ⟨w.heap.size,0,none⟩ = some c0∧w1.cell? ⟨w.heap.size,1,none⟩ = some c1∧w1.cell? ⟨w.heap.size + 1,0,none⟩ = some d0∧w1.cell? ⟨w.heap.size + 1,1,none⟩ = some d1∧w1.cell? ⟨w.heap.size + 1 + 1,0,none⟩ = some e0∧w1.cell? ⟨w.heap.size + 1 + 1,1,none⟩ = some e1∧w1.cell? ⟨w.heap.size + 1 + 1 + 1,0,none⟩ = some f0∧w1.cell? ⟨w.heap.size + 1 + 1 + 1,1,none⟩ = some f1:=by
 obtain ⟨h1,h2,h3,h4,h5,h6⟩:=box_kept3 (((Kept.refl _).alloc _).trans h)
 refine ⟨h1,h2,h3,h4,h5,h6,?_,?_⟩ <;> (rw [h.cells _ _ (by simp),World.cell?_alloc_at _ _ _ _ (by simp)]; rfl)
theorem news_nil {w:World} {ad:Addr}:∀ j u,(us ([]:List Nat))[j]? = some u→w.cell? (ad.add j) = some u:=by
 intro j u hu
 simp [us] at hu
theorem right_sg {neg:Bool} {l:List Nat} (hb:D.Bd l) (ht:D.Tr l):D.Right (neg && decide (0 < l.length)) l∧int (neg && decide (0 < l.length)) l = int neg l:=by
 by_cases h0:0 < l.length
 ·
  simp only [h0,decide_true,Bool.and_true]
  exact ⟨⟨hb,ht,fun e => by rw [e] at h0; simp at h0⟩,trivial⟩
 ·
  have:l = []:=List.length_eq_zero_iff.1 (by omega)
  subst this
  exact ⟨⟨hb,ht,fun _ => by simp⟩,by cases neg <;> simp [int,D.val]⟩
set_option maxRecDepth 100000 in
set_option maxHeartbeats 4000000 in
theorem Divide_raw (m n:Bool) (aoa aob:Option Addr) (capa capb:Nat) (a b:List Nat) (w:World) (ha:Sl w (.slice aoa a.length capa) a) (hb:Sl w (.slice aob b.length capb) b) (hla:a.length≤60000) (hlb:b.length≤60000) (tb:D.Tr b) (hb0:0 < D.val b) :
  Calls Tryz.prog 58 #[.agg #[.bool m,.slice aoa a.length capa],.agg #[.bool n,.slice aob b.length capb]] w fun e w' => Kept w w'∧DivRes w.heap.size w' e m n a b:=by
 have HA:Hid (Sl w (.slice aoa a.length capa) a):=ha
 have HB:Hid (Sl w (.slice aob b.length capb) b∧D.Tr b∧0 < D.val b):=⟨hb,tb,hb0⟩
 have bda:=ha.bd
 have bdb:=hb.bd
 obtain ⟨ka,hka⟩:∃ ka,ka = a.length:=⟨_,rfl⟩
 obtain ⟨kb,hkb⟩:∃ kb,kb = b.length:=⟨_,rfl⟩
 rw [← hka,← hkb]
 rw [← hka] at HA hla
 rw [← hkb] at HB hlb
 have HL:Hid (ka = a.length∧kb = b.length):=⟨hka,hkb⟩
 obtain ⟨i0,hi,hz0,hz1,hz2⟩:=info_parts infoI
 have hmk:=make_digits ka (by omega)
 clear ha hb tb hb0 hka hkb
 have K4:∀ x y t u,Kept w ((((w.alloc x).alloc y).alloc t).alloc u):=fun x y t u => ((((Kept.refl w).alloc x).alloc y).alloc t).alloc u
 go_enter Tryz.func58,Tryz.ntmps58
 go_wp2
 have hrow0:=row_zeros ((((w.alloc (.cells #[.bool m,.slice aoa ka capa] 51)).alloc (.cells #[.bool n,.slice aob kb capb] 51)).alloc (.cells #[.bool false,.slice none 0 0] 51)).alloc (.cells #[.bool false,.slice none 0 0] 51)) ka
 have HROW0:Hid (((((((w.alloc (.cells #[.bool m,.slice aoa ka capa] 51)).alloc (.cells #[.bool n,.slice aob kb capb] 51)).alloc (.cells #[.bool false,.slice none 0 0] 51)).alloc (.cells #[.bool false,.slice none 0 0] 51)).alloc (.cells (madeCells #[.int .i64 0] ka) 3)).rowIs (w.heap.size + 1 + 1 + 1 + 1) 3 ka (fun j => .int .i64 (((List.replicate ka 0).getD j 0:Nat):Int)))):=by
  simp only [World.size_alloc] at hrow0
  exact hrow0
 clear hrow0 hmk
 go_loopw [7,8] (fun vr vi wr => ∃ (k nr capr:Nat) (aor:Option Addr) (o r:List Nat),k≤ka∧nr≤60000∧vi = .int .i64 ((k:Int) - 1)∧vr = .slice aor nr capr ∧
   Hid (nr = r.length∧NewE (w.heap.size + 1 + 1 + 1 + 1) wr (.slice aor nr capr) r∧D.Tr r∧D.val r < D.val b∧o.length = ka∧D.Bd o∧D.val (a.drop k) = D.val (o.drop k) * D.val b + D.val r) ∧
   Hid (wr.rowIs (w.heap.size + 1 + 1 + 1 + 1) 3 ka (fun j => .int .i64 ((o.getD j 0:Nat):Int))) ∧
   Hid (Kept ((((w.alloc (.cells #[.bool m,.slice aoa ka capa] 51)).alloc (.cells #[.bool n,.slice aob kb capb] 51)).alloc (.cells #[.bool false,.slice none 0 0] 51)).alloc (.cells #[.bool false,.slice none 0 0] 51)) wr)) (fun _ vi _ => (intOf vi + 1).toNat)
 case atStart =>
  refine ⟨ka,0,0,none,List.replicate ka 0,[],Nat.le_refl _,by omega,rfl,rfl,⟨rfl,⟨Sl.nil _ _ _,fun h => by simp at h⟩,.inl rfl,HB.out.2.2,List.length_replicate,Bd_replicate ka,?_⟩,HROW0.out,(Kept.refl _).alloc _⟩
  rw [List.drop_of_length_le (l:=a) (by rw [← HL.out.1]; exact Nat.le_refl _),List.drop_of_length_le (by rw [List.length_replicate]; exact Nat.le_refl _)]
  simp [D.val]
 case round =>
  obtain ⟨k,nr,capr,aor,o,r,hk,hnr,rfl,rfl,hr,hrow,hkept⟩:=hrel
  obtain ⟨hA0,hA1,hB0,hB1,hC0,hC1,hD0,hD1⟩:=box_kept4 hkept.out
  by_cases h0:k = 0
  ·
   subst h0
   obtain ⟨e1,hS,tr,hlt,hol,hbo,hval⟩:=hr.out
   rw [List.drop_zero,List.drop_zero] at hval
   have HQ:Hid (New (w.heap.size + 1 + 1 + 1 + 1) wr (.slice (some ⟨w.heap.size + 1 + 1 + 1 + 1,0,none⟩) ka ka) o):=New.of_row hrow.out hbo hol.symm (Nat.le_refl _) (Nat.le_refl _)
   have HR:Hid (nr = r.length∧NewE (w.heap.size + 1 + 1 + 1 + 1) wr (.slice aor nr capr) r∧D.Tr r∧D.val r < D.val b∧D.val a = D.val o * D.val b + D.val r∧o.length = ka):=⟨e1,hS,tr,hlt,hval,hol⟩
   have hfz:∀ k,wr.frozen? ⟨w.heap.size + 1 + 1,k,none⟩ = false:=fun k => by rw [hkept.out.frozens (w.heap.size + 1 + 1) k (by simp)]; exact (World.frozen?_alloc_past _ _ _ (by simp)).trans (World.frozen?_alloc_at _ _ _ _ (by simp))
   have hfz2:∀ k,wr.frozen? ⟨w.heap.size + 1 + 1 + 1,k,none⟩ = false:=fun k => by rw [hkept.out.frozens (w.heap.size + 1 + 1 + 1) k (by simp)]; exact World.frozen?_alloc_at _ _ _ _ (by simp)
   have HKW:Hid (Kept w wr):=(K4 _ _ _ _).trans hkept.out
   clear e1 hS tr hlt hol hbo hval hA1 hB1 K4
   go_wp2_with fail
   refine (trim_newE _ HQ.out (by rw [HR.out.2.2.2.2.2]; omega)).mono ?_
   rintro e w1 ⟨rfl,vq,q,rfl,hsq,htq,hvq,hlq⟩
   obtain ⟨aq,cq,rfl⟩:=hsq.1.shape
   have hql:q.length≤60000:=by have:=HR.out.2.2.2.2.2; omega
   have h1:=right_sg (neg:=(m != n)) hsq.1.bd htq
   have h2:=right_sg (neg:=m) HR.out.2.1.1.bd HR.out.2.2.1
   rw [← HR.out.1] at h2
   obtain ⟨kq,hkq⟩:∃ kq,kq = q.length:=⟨_,rfl⟩
   rw [← hkq] at h1 hsq hql ⊢
   have HF:Hid (NewE (w.heap.size + 1 + 1 + 1 + 1) w1 (.slice aq kq cq) q∧D.Right ((m != n) && decide (0 < kq)) q∧int ((m != n) && decide (0 < kq)) q = int (m != n) q∧D.Right (m && decide (0 < nr)) r∧int (m && decide (0 < nr)) r = int m r∧D.val a = D.val q * D.val b + D.val r):=⟨hsq,h1.1,h1.2,h2.1,h2.2,by rw [hvq]; exact HR.out.2.2.2.2.1⟩
   clear h1 h2 hsq htq hvq hlq hkq
   have hne:∀ k k',(⟨w.heap.size + 1 + 1 + 1,k,none⟩:Addr) ≠ ⟨w.heap.size + 1 + 1,k',none⟩:=fun k k' h => by simp at h
   cases m <;> cases n
   ·
    go_wp2
    refine bodyPost_ret (v:=.tuple #[.agg #[.bool false,.slice aq kq cq],.agg #[.bool false,.slice aor nr capr]]) (by simp [results,Tryz.results58,go_sem,hC0,hC1,hD0,hD1]) rfl ⟨?_,_,aq,kq,cq,q,_,aor,nr,capr,r,rfl,?_,?_,HF.out.2.1,HF.out.2.2.2.1,HF.out.2.2.2.2.2,HR.out.2.2.2.1,HF.out.2.2.1,HF.out.2.2.2.2.1⟩
    ·
     exact (((HKW.out.setCell (by simp; omega) _).setCell (by simp; omega) _).setCell (by simp; omega) _).setCell (by simp; omega) _
    ·
     exact ((((HF.out.1.otherE (by simp) _).otherE (by simp) _).otherE (by simp) _).otherE (by simp) _).mono (by omega)
    ·
     exact ((((HR.out.2.1.otherE (by simp) _).otherE (by simp) _).otherE (by simp) _).otherE (by simp) _).mono (by omega)
   ·
    go_wp2
    refine bodyPost_ret (v:=.tuple #[.agg #[.bool (decide (0 < kq)),.slice aq kq cq],.agg #[.bool false,.slice aor nr capr]]) (by simp [results,Tryz.results58,go_sem,hC0,hC1,hD0,hD1]) rfl ⟨?_,_,aq,kq,cq,q,_,aor,nr,capr,r,rfl,?_,?_,HF.out.2.1,HF.out.2.2.2.1,HF.out.2.2.2.2.2,HR.out.2.2.2.1,HF.out.2.2.1,HF.out.2.2.2.2.1⟩
    ·
     exact (((HKW.out.setCell (by simp; omega) _).setCell (by simp; omega) _).setCell (by simp; omega) _).setCell (by simp; omega) _
    ·
     exact ((((HF.out.1.otherE (by simp) _).otherE (by simp) _).otherE (by simp) _).otherE (by simp) _).mono (by omega)
    ·
     exact ((((HR.out.2.1.otherE (by simp) _).otherE (by simp) _).otherE (by simp) _).otherE (by simp) _).mono (by omega)
   ·
    go_wp2
    refine bodyPost_ret (v:=.tuple #[.agg #[.bool (decide (0 < kq)),.slice aq kq cq],.agg #[.bool (decide (0 < nr)),.slice aor nr capr]]) (by simp [results,Tryz.results58,go_sem,hC0,hC1,hD0,hD1]) rfl ⟨?_,_,aq,kq,cq,q,_,aor,nr,capr,r,rfl,?_,?_,HF.out.2.1,HF.out.2.2.2.1,HF.out.2.2.2.2.2,HR.out.2.2.2.1,HF.out.2.2.1,HF.out.2.2.2.2.1⟩
    ·
     exact (((HKW.out.setCell (by simp; omega) _).setCell (by simp; omega) _).setCell (by simp; omega) _).setCell (by simp; omega) _
    ·
     exact ((((HF.out.1.otherE (by simp) _).otherE (by simp) _).otherE (by simp) _).otherE (by simp) _).mono (by omega)
    ·
     exact ((((HR.out.2.1.otherE (by simp) _).otherE (by simp) _).otherE (by simp) _).otherE (by simp) _).mono (by omega)
   ·
    go_wp2
    refine bodyPost_ret (v:=.tuple #[.agg #[.bool false,.slice aq kq cq],.agg #[.bool (decide (0 < nr)),.slice aor nr capr]]) (by simp [results,Tryz.results58,go_sem,hC0,hC1,hD0,hD1]) rfl ⟨?_,_,aq,kq,cq,q,_,aor,nr,capr,r,rfl,?_,?_,HF.out.2.1,HF.out.2.2.2.1,HF.out.2.2.2.2.2,HR.out.2.2.2.1,HF.out.2.2.1,HF.out.2.2.2.2.1⟩
    ·
     exact (((HKW.out.setCell (by simp; omega) _).setCell (by simp; omega) _).setCell (by simp; omega) _).setCell (by simp; omega) _
    ·
     exact ((((HF.out.1.otherE (by simp) _).otherE (by simp) _).otherE (by simp) _).otherE (by simp) _).mono (by omega)
    ·
     exact ((((HR.out.2.1.otherE (by simp) _).otherE (by simp) _).otherE (by simp) _).otherE (by simp) _).mono (by omega)
  ·
   obtain ⟨i,rfl⟩:∃ i,k = i + 1:=⟨k - 1,by omega⟩
   have hil:i < ka:=by omega
   have e1:((i + 1:Nat):Int) - 1 = (i:Int):=by omega
   rw [e1]
   have hKW:Kept w wr:=(K4 _ _ _ _).trans hkept.out
   obtain ⟨ba,oa,rfl,hcapa,hca⟩:∃ ba oa,aoa = some ⟨ba,oa,none⟩∧ka≤capa∧wr.cell? ⟨ba,oa + i,none⟩ = some (.int .i64 ((a.getD i 0:Nat):Int)):=by
    obtain ⟨_,ao',cap',he,hx⟩:=HA.out.kept hKW
    simp only [Value.slice.injEq] at he
    obtain ⟨rfl,e2,rfl⟩:=he
    obtain ⟨h1,b',off,rfl,_,hc⟩:=hx (by omega)
    exact ⟨b',off,rfl,by omega,hc i (by omega)⟩
   have hxb:=bda.getD i
   obtain ⟨x,hx⟩:∃ x,x = a.getD i 0:=⟨_,rfl⟩
   rw [← hx] at hca hxb
   have HX:Hid (x = a.getD i 0):=hx
   clear hx hC0 hC1 hD0 hD1 hA0
   have hsz:∀ y,wr.heap.size≤(wr.alloc y).heap.size:=fun y => by simp
   have hlit:(wr.alloc (.cells #[.int .i64 (x:Int)] 3)).ownsRow wr.heap.size 3 1 (.slice (some ⟨wr.heap.size,0,none⟩) 1 1) 1 [.int .i64 (x:Int)]:=World.ownsRow_lit wr #[.int .i64 (x:Int)] 1 (Nat.le_refl _) (by unfold maxLen; omega) rfl
   have HLIT:Hid ((wr.alloc (.cells #[.int .i64 (x:Int)] 3)).ownsRow wr.heap.size 3 1 (.slice (some ⟨wr.heap.size,0,none⟩) 1 1) 1 [.int .i64 (x:Int)]):=hlit
   have hm1:1 + nr≤maxLen:=by unfold maxLen; omega
   have hm2:(1 + nr) * 8≤140737488355328:=by omega
   clear hlit
   have hrl:r.length≤60000:=by rw [← hr.out.1]; exact hnr
   have HR:Hid (D.Tr r∧D.val r < D.val b∧o.length = ka∧D.Bd o∧D.val (a.drop (i + 1)) = D.val (o.drop (i + 1)) * D.val b + D.val r):=hr.out.2.2
   have HKW:Hid (Kept w wr):=hKW
   clear hKW
   cases aor
   case' none =>
    have hnr0:nr = 0:=by
     obtain ⟨_,ao',cap',he,hx⟩:=hr.out.2.1.1
     simp only [Value.slice.injEq] at he
     obtain ⟨rfl,e2,rfl⟩:=he
     rcases Nat.eq_zero_or_pos nr with h | h
     ·
      exact h
     ·
      obtain ⟨_,b',off,e,_⟩:=hx (by omega)
      cases e
    subst hnr0
    have hrn:r = []:=List.length_eq_zero_iff.1 hr.out.1.symm
    go_wp2_with (at_builtin; refine wpList_append_nil _ rfl _ _ 41 rfl wr.heap.size 3 i0 1 capr Tryz.underlying41 hi _ _ _ rfl HLIT.out rfl ?_)
    obtain ⟨w3,hw3⟩:∃ w3,w3 = wr.alloc (.cells #[.int .i64 (x:Int)] 3):=⟨_,rfl⟩
    obtain ⟨v3,hv3⟩:∃ v3,v3 = Value.slice (some ⟨wr.heap.size,0,none⟩) 1 1:=⟨_,rfl⟩
    have H3:Hid (New wr.heap.size w3 v3 (x :: r)∧Kept wr w3):=by
     have h9:=HLIT.out
     rw [← hw3,← hv3] at h9
     rw [hrn]
     refine ⟨(New.of_owns (l:=[x]) h9 (fun y hy => by simp at hy; omega)),?_⟩
     ·
      rw [hw3]; exact (Kept.refl wr).alloc _
    rw [← hw3,← hv3]
    clear hw3 hv3 hr HLIT hrn
   case' some ad =>
    have hnw:∀ j u,(us r)[j]? = some u→(wr.alloc (.cells #[.int .i64 (x:Int)] 3)).cell? (ad.add j) = some u:=by
     by_cases hr0:0 < r.length
     ·
      obtain ⟨_,ao',cap',he,hx⟩:=hr.out.2.1.1.kept ((Kept.refl wr).alloc (.cells #[.int .i64 (x:Int)] 3))
      simp only [Value.slice.injEq] at he
      obtain ⟨rfl,e2,rfl⟩:=he
      obtain ⟨_,b',off,e,_,hc⟩:=hx hr0
      cases e
      exact Sl.news hc
     ·
      rw [List.length_eq_zero_iff.1 (Nat.eq_zero_of_not_pos hr0)]; exact news_nil
    have HNW:Hid (∀ j u,(us r)[j]? = some u→(wr.alloc (.cells #[.int .i64 (x:Int)] 3)).cell? (ad.add j) = some u):=hnw
    have hus:(us r).length = nr * 1:=by rw [hr.out.1]; simp [us]
    have HUS:Hid ((us r).length = nr * 1):=hus
    clear hnw hus
    go_wp2_with (at_builtin; refine wpList_append_own _ rfl _ _ 41 rfl wr.heap.size 3 i0 (.int .i64 0) 1 8 Tryz.underlying41 hi hz0 hz1 hz2 rfl (by decide) _ _ _ rfl HLIT.out ad nr capr (us r) rfl HUS.out HNW.out (us_oneCell r) hm1 hm2 (by exact hsz _) ?_)
    intro v3 w3 hown hgrow _
    have H3:Hid (New wr.heap.size w3 v3 (x :: r)∧Kept wr w3):=by
     refine ⟨(New.of_owns (n:=1 + nr) (l:=x :: r) hown (fun y hy => ?_)),Below.grown ((Below.refl _ wr).alloc (Nat.le_refl _) _) hgrow (by simp) (fun j hj => by simp [Value.ownBlock] at hj; omega)⟩
     rcases List.mem_cons.1 hy with rfl | h
     ·
      exact hxb
     ·
      exact hr.out.2.1.1.bd y h
    clear hown hgrow hr HLIT HNW HUS
    go_wp2_with fail
   all_goals
    refine (trim_newE _ H3.out.1 (by simp; omega)).mono ?_
    rintro e w4 ⟨rfl,v4,l4,rfl,hs4,ht4,hv4,hl4⟩
    obtain ⟨ao4,cap4,rfl⟩:=hs4.1.shape
    have hl4':l4.length≤60001:=by simp at hl4; omega
    have H4:Hid (Sl w4 (.slice ao4 l4.length cap4) l4∧D.Tr l4∧D.val l4 = x + 65536 * D.val r∧Kept wr w4∧NewE wr.heap.size w4 (.slice ao4 l4.length cap4) l4):=⟨hs4.1,ht4,hv4,H3.out.2,hs4⟩
    have hB1':=cell_kept H4.out.2.2.2.1 hB1
    clear hs4 ht4 hv4 hl4 hA1 hca hB0 hB1
    have hdg:=digit_any ao4 aob cap4 capb l4 b w4 H4.out.1 (by have h9:=HB.out.1.kept (HKW.out.trans H4.out.2.2.2.1); rw [HL.out.2] at h9; exact h9) (by omega) (by rw [← HL.out.2]; omega) H4.out.2.1 HB.out.2.1 HB.out.2.2 (by have h8:=H4.out.2.2.1; have h9:=HR.out.2.1; omega)
    rw [← HL.out.2] at hdg
    obtain ⟨qd,hqd⟩:∃ qd,qd = D.val l4 / D.val b:=⟨_,rfl⟩
    rw [← hqd] at hdg
    have HQD:Hid (qd = D.val l4 / D.val b∧qd < 65536):=⟨hqd,by rw [hqd,Nat.div_lt_iff_lt_mul HB.out.2.2]; have h8:=H4.out.2.2.1; have h9:=HR.out.2.1; omega⟩
    have HDG:Hid (Calls Tryz.prog 88 #[.slice ao4 l4.length cap4,.slice aob kb capb] w4 fun e w' => Kept w4 w'∧e = .returned (.int .i64 (qd:Int))):=hdg
    have hqb:qd < 65536:=HQD.out.2
    clear hdg hqd
    go_wp2_with fail
    refine HDG.out.mono ?_
    rintro e w5 ⟨hk5,rfl⟩
    have hB1'':=cell_kept hk5 hB1'
    have HK5:Hid (Kept wr w5∧Sl w5 (.slice ao4 l4.length cap4) l4∧NewE wr.heap.size w5 (.slice ao4 l4.length cap4) l4):=⟨H4.out.2.2.2.1.trans hk5,H4.out.1.kept hk5,H4.out.2.2.2.2.kept hk5⟩
    clear hk5 hB1' HDG
    by_cases hq0:qd = 0
    ·
     subst hq0
     have hl4s:D.val l4 < D.val b:=by
      have h9:=HQD.out.1
      rcases Nat.lt_or_ge (D.val l4) (D.val b) with h | h
      ·
       exact h
      ·
       have:=Nat.div_pos h HB.out.2.2; omega
     have hl4n:l4.length≤60000:=by
      have h1:=D.len_le_of_val_le H4.out.2.1 HB.out.1.bd (Nat.le_of_lt hl4s)
      have h2:=HL.out.2
      omega
     have HL4S:Hid (D.val l4 < D.val b):=hl4s
     clear hl4s
     have hrow5:w5.rowIs (w.heap.size + 1 + 1 + 1 + 1) 3 ka (fun j => .int .i64 ((o.getD j 0:Nat):Int)):=hrow.out.of_block (HK5.out.1.block _ hrow.out.lt)
     have hfz:w5.frozen? ⟨w.heap.size + 1 + 1 + 1 + 1,i,none⟩ = false:=hrow5.frozen _
     have hcz:w5.cell? ⟨w.heap.size + 1 + 1 + 1 + 1,i,none⟩ = some (.int .i64 ((o.getD i 0:Nat):Int)):=hrow5.cell hil
     have HROW5:Hid (w5.rowIs (w.heap.size + 1 + 1 + 1 + 1) 3 ka (fun j => .int .i64 ((o.getD j 0:Nat):Int))):=hrow5
     obtain ⟨z,hz⟩:∃ z:Int,z = ((o.getD i 0:Nat):Int):=⟨_,rfl⟩
     rw [← hz] at hcz
     clear hrow5 hz
     go_wp2
     go_roundw
     case rel =>
      have hR:=HR.out
      have hst:=quo_step (a:=a) (o:=o) (i:=i) (x:=x) (q:=0) (R:=D.val r) (B:=D.val b) (R':=D.val l4 % D.val b) (by rw [← HL.out.1]; exact hil) (by rw [hR.2.2.1]; exact hil) HX.out HB.out.2.2 hR.2.2.2.2 (by rw [HQD.out.1,H4.out.2.2.1]) (by rw [H4.out.2.2.1]) rfl
      have hgrs:w5.grownBy (w5.setCell ⟨w.heap.size + 1 + 1 + 1 + 1,i,none⟩ (.int .i64 ((0:Nat):Int))) (some (w.heap.size + 1 + 1 + 1 + 1)):=grown_set (World.grownBy.refl _ _) i _
      refine ⟨i,l4.length,cap4,ao4,o.set i 0,l4,by omega,(by omega),by go_num,rfl,⟨rfl,?_,H4.out.2.1,?_,by rw [List.length_set]; exact hR.2.2.1,Bd_set hR.2.2.2.1 _ _ HQD.out.2,?_⟩,row_set HROW5.out i (by rw [hR.2.2.1]; exact hil) 0 _ rfl,?_⟩
      ·
       exact (HK5.out.2.2.otherE (show w.heap.size + 1 + 1 + 1 + 1 < wr.heap.size from hrow.out.lt) _).mono (Nat.le_of_lt hrow.out.lt)
      ·
       rw [show D.val l4 = D.val l4 % D.val b from (Nat.mod_eq_of_lt HL4S.out).symm]; exact hst.2
      ·
       rw [show D.val l4 = D.val l4 % D.val b from (Nat.mod_eq_of_lt HL4S.out).symm]; exact hst.1
      ·
       exact (hkept.out.trans HK5.out.1).setCell (by simp) _
     case measure => simp [intOf]
    ·
     have hq1:0 < qd:=by omega
     have hfd:∀ (s:Bool) (ao:Option Addr) (n cap:Nat) (w:World),(Instr.field 51 (.agg #[.bool s,.slice ao n cap]) 1).run Tryz.prog w = .ok (.slice ao n cap) w:=fld1
     have HKB:∀ W,Kept w5 W→W.cell? ⟨w.heap.size + 1,1,none⟩ = some (.slice aob kb capb):=fun W hW => cell_kept hW hB1''
     have HKB':Hid (∀ W,Kept w5 W→W.cell? ⟨w.heap.size + 1,1,none⟩ = some (.slice aob kb capb)):=HKB
     have HBW:Hid (∀ W,Kept w5 W→Sl W (.slice aob b.length capb) b):=fun W hW => by have h9:=HB.out.1.kept ((HKW.out.trans HK5.out.1).trans hW); rw [HL.out.2] at h9; exact h9
     clear HKB
     have hkbl:b.length = kb:=HL.out.2.symm
     rw [hkbl] at HBW
     have HKBL:Hid (b.length = kb):=hkbl
     clear hkbl
     go_wp2_with fail
     go_region_held3 (fun w' => w'.cell? ⟨w.heap.size + 1,1,none⟩ = some (.slice aob kb capb)) (go_keep) (first
      | (go_at_call 25; refine (small_any qd _ hqb).mono ?_; rintro e w6 ⟨hk6,aos,ns,caps,ls,rfl,hs6,ht6,hv6,hl6⟩; obtain rfl:ns = ls.length:=(by obtain ⟨_,_,_,he,_⟩:=hs6; simp only [Value.slice.injEq] at he; exact he.2.1); have hb6:=HKB'.out _ ((Kept.refl w5).drew.trans hk6))
      | (go_at_call 57; have hT:=Times_raw false false aob aos capb caps b ls w6 (by have h9:=HBW.out w6 ((Kept.refl w5).drew.trans hk6); rw [← HKBL.out] at h9; exact h9) hs6 (by rw [HKBL.out]; omega) (by omega); rw [HKBL.out] at hT; refine hT.mono ?_; rintro e w7 ⟨hk7,aot,kt,capt,lt,rfl,hs7,ht7,hv7,hl7⟩; obtain rfl:kt = lt.length:=(by obtain ⟨_,_,_,he,_⟩:=hs7; simp only [Value.slice.injEq] at he; exact he.2.1); have hb7:=HKB'.out _ (((Kept.refl w5).drew.trans hk6).trans hk7))
      | (go_at_call 89; have hle:D.val lt≤D.val l4:=(by rw [hv7,hv6,HQD.out.1,Nat.mul_comm]; exact Nat.div_mul_le_self _ _); refine (minus_new _ _ l4 lt _ ((HK5.out.2.1.kept ((Kept.refl w5).drew.trans hk6)).kept hk7) hs7 (by omega) hle (D.len_le_of_val_le ht7 HK5.out.2.1.bd hle)).mono ?_; rintro e w8 ⟨hk8,v8,l8,rfl,hs8,ht8,hv8,hl8⟩; have hb8:=HKB'.out _ ((((Kept.refl w5).drew.trans hk6).trans hk7).trans hk8)))
     obtain ⟨ao8,cap8,rfl⟩:=hs8.1.shape
     have HK8:Hid (Kept wr w8∧NewE wr.heap.size w8 (.slice ao8 l8.length cap8) l8∧D.Tr l8∧D.val l8 = D.val l4 % D.val b):=by
      refine ⟨HK5.out.1.trans ((((Kept.refl w5).drew.trans hk6).trans hk7).trans hk8),hs8.mono ((HK5.out.1.trans (((Kept.refl w5).drew.trans hk6).trans hk7)).size),ht8,?_⟩
      rw [hv8,hv7,hv6,HQD.out.1,Nat.mod_def]
     have hl8':l8.length≤60000:=by
      have h1:=D.len_le_of_val_le ht8 HB.out.1.bd (by rw [HK8.out.2.2.2]; exact Nat.le_of_lt (Nat.mod_lt _ HB.out.2.2))
      have h2:=HL.out.2
      omega
     clear hk6 hk7 hk8 hs6 hs7 hs8 ht6 ht7 ht8 hv6 hv7 hv8 hl6 hl7 hl8 hb6 hb7 hb8 hB1'' hfd
     have hrow5:w8.rowIs (w.heap.size + 1 + 1 + 1 + 1) 3 ka (fun j => .int .i64 ((o.getD j 0:Nat):Int)):=hrow.out.of_block (HK8.out.1.block _ hrow.out.lt)
     have hfz:w8.frozen? ⟨w.heap.size + 1 + 1 + 1 + 1,i,none⟩ = false:=hrow5.frozen _
     have hcz:w8.cell? ⟨w.heap.size + 1 + 1 + 1 + 1,i,none⟩ = some (.int .i64 ((o.getD i 0:Nat):Int)):=hrow5.cell hil
     have HROW5:Hid (w8.rowIs (w.heap.size + 1 + 1 + 1 + 1) 3 ka (fun j => .int .i64 ((o.getD j 0:Nat):Int))):=hrow5
     obtain ⟨z,hz⟩:∃ z:Int,z = ((o.getD i 0:Nat):Int):=⟨_,rfl⟩
     rw [← hz] at hcz
     clear hrow5 hz
     go_wp2
     go_roundw
     case rel =>
      have hR:=HR.out
      have hst:=quo_step (a:=a) (o:=o) (i:=i) (x:=x) (q:=qd) (R:=D.val r) (B:=D.val b) (R':=D.val l4 % D.val b) (by rw [← HL.out.1]; exact hil) (by rw [hR.2.2.1]; exact hil) HX.out HB.out.2.2 hR.2.2.2.2 (by rw [HQD.out.1,H4.out.2.2.1]) (by rw [H4.out.2.2.1]) rfl
      have hgrs:w8.grownBy (w8.setCell ⟨w.heap.size + 1 + 1 + 1 + 1,i,none⟩ (.int .i64 (qd:Int))) (some (w.heap.size + 1 + 1 + 1 + 1)):=grown_set (World.grownBy.refl _ _) i _
      refine ⟨i,l8.length,cap8,ao8,o.set i qd,l8,by omega,(by omega),by go_num,rfl,⟨rfl,?_,HK8.out.2.2.1,?_,by rw [List.length_set]; exact hR.2.2.1,Bd_set hR.2.2.2.1 _ _ HQD.out.2,?_⟩,row_set HROW5.out i (by rw [hR.2.2.1]; exact hil) qd _ rfl,?_⟩
      ·
       exact (HK8.out.2.1.otherE (show w.heap.size + 1 + 1 + 1 + 1 < wr.heap.size from hrow.out.lt) _).mono (Nat.le_of_lt hrow.out.lt)
      ·
       rw [HK8.out.2.2.2]; exact hst.2
      ·
       rw [HK8.out.2.2.2]; exact hst.1
      ·
       exact (hkept.out.trans HK8.out.1).setCell (by simp) _
     case measure => simp [intOf]
end Go.Proofs.YtdcgdpbgnijnpaaGreat.D

namespace Go.Proofs.YtdcgdpbgnijnpaaGreat.D
open Go.RowKit
def Off (B C:Nat) (w:World) (v:Value) (l:List Nat):Prop:=Sl w v l∧(0 < l.length→∃ b off n cap,v = .slice (some ⟨b,off,none⟩) n cap∧(b < B ∨ C≤b))
theorem Off.kept {B C:Nat} {w w':World} {v:Value} {l:List Nat} (h:Off B C w v l) (k:Kept w w'):Off B C w' v l:=⟨h.1.kept k,h.2⟩
theorem Off.other {B C:Nat} {w:World} {v:Value} {l:List Nat} (h:Off B C w v l) {p:Addr} (h1:B≤p.block) (h2:p.block < C) (u:Value):Off B C (w.setCell p u) v l:=by
 refine ⟨?_,h.2⟩
 obtain ⟨⟨hb,ao,cap,rfl,hx⟩,h3⟩:=h
 refine ⟨hb,ao,cap,rfl,fun h0 => ?_⟩
 obtain ⟨h4,b,off,rfl,hlt,hc⟩:=hx h0
 refine ⟨h4,b,off,rfl,by simpa using hlt,fun j hj => ?_⟩
 obtain ⟨b',o',n',c',e,hB⟩:=h3 h0
 simp only [Value.slice.injEq,Option.some.injEq,Addr.mk.injEq] at e
 obtain ⟨⟨rfl,_,_⟩,_,_⟩:=e
 rw [World.cell?_setCell_other _ _ _ _ (by intro e; rw [e] at h1 h2; simp at h1 h2; omega)]
 exact hc j hj
theorem NewE.off {B C D':Nat} {w:World} {v:Value} {l:List Nat} (h:NewE D' w v l) (hC:C≤D'):Off B C w v l:=⟨h.1,fun h0 => by
 obtain ⟨b,n,cap,e,hb⟩:=h.2 h0
 exact ⟨b,0,n,cap,e,.inr (by omega)⟩⟩
theorem Sl.off {C:Nat} {w:World} {v:Value} {l:List Nat} (h:Sl w v l):Off w.heap.size C w v l:=⟨h,fun h0 => by
 obtain ⟨_,ao,cap,rfl,hx⟩:=h
 obtain ⟨_,b,off,rfl,hlt,_⟩:=hx h0
 exact ⟨b,off,_,cap,rfl,.inl hlt⟩⟩
def rdv (w:World):Value→Nat
 | .slice (some a) n _ => D.val ((List.range n).map (fun j => match w.cell? ⟨a.block,a.off + j,none⟩ with | some (.int _ x) => x.toNat | _ => 0))
 | _ => 0
def rdc (w:World) (b:Nat):Nat:=match w.cell? ⟨b,1,none⟩ with | some v => rdv w v | none => 0
theorem Off.pair {w:World} {v:Value} {l:List Nat} {B C:Nat} {e0 e1 f0 f1:Value} (h:Off B C w v l) {x y:Nat} (hx:B≤x∧x < C) (hy:B≤y∧y < C):Off B C ((((w.setCell ⟨x,0,none⟩ e0).setCell ⟨x,1,none⟩ e1).setCell ⟨y,0,none⟩ f0).setCell ⟨y,1,none⟩ f1) v l :=
 (((h.other hx.1 hx.2 _).other hx.1 hx.2 _).other hy.1 hy.2 _).other hy.1 hy.2 _
end Go.Proofs.YtdcgdpbgnijnpaaGreat.D

namespace Go.Proofs.YtdcgdpbgnijnpaaGreat.D
open Go.RowKit
theorem NIs.len {w:World} {s:Bool} {ao:Option Addr} {k cap:Nat} {z:Int} (h:NIs w s (.slice ao k cap) z):∃ l,Sl w (.slice ao l.length cap) l∧D.Right s l∧int s l = z∧k = l.length:=by
 obtain ⟨l,h1,h2,h3⟩:=h
 have e:k = l.length:=by obtain ⟨_,_,_,he,_⟩:=h1; simp only [Value.slice.injEq] at he; exact he.2.1
 subst e
 exact ⟨l,h1,h2,h3,rfl⟩
end Go.Proofs.YtdcgdpbgnijnpaaGreat.D

namespace Go.Proofs.YtdcgdpbgnijnpaaGreat.D
open Go.RowKit
theorem Divide_new (m n:Bool) (aoa aob:Option Addr) (ka kb capa capb:Nat) (x y:Int) (w:World) (ha:NIs w m (.slice aoa ka capa) x) (hb:NIs w n (.slice aob kb capb) y) (hla:ka≤60000) (hlb:kb≤60000) (hy:y ≠ 0) :
  Calls Tryz.prog 58 #[.agg #[.bool m,.slice aoa ka capa],.agg #[.bool n,.slice aob kb capb]] w fun e w' => Kept w w'∧∃ s aq kq cq t ar kr cr,e = .returned (.tuple #[.agg #[.bool s,.slice aq kq cq],.agg #[.bool t,.slice ar kr cr]])∧NIs w' s (.slice aq kq cq) (Int.tdiv x y)∧NIs w' t (.slice ar kr cr) (Int.tmod x y)∧kq≤ka∧kr≤kb∧(0 < kq→∃ b,aq = some ⟨b,0,none⟩∧w.heap.size≤b):=by
 obtain ⟨a,ha1,ha2,rfl,rfl⟩:=ha.len
 obtain ⟨b,hb1,hb2,rfl,rfl⟩:=hb.len
 have hb0:0 < D.val b:=by
  rcases Nat.eq_zero_or_pos (D.val b) with h | h
  ·
   exfalso; apply hy; unfold int; rw [h]; cases n <;> rfl
  ·
   exact h
 refine (Divide_raw m n aoa aob capa capb a b w ha1 hb1 hla hlb hb2.tr hb0).mono ?_
 rintro e w' ⟨hk,s,aq,kq,cq,q,t,ar,kr,cr,r,rfl,hNq,hNr,hRq,hRr,hval,hlt,hiq,hir⟩
 have hid:=int_tdiv (m:=m) (n:=n) hval hlt
 have e1:kq = q.length:=by obtain ⟨_,_,_,he,_⟩:=hNq.1; simp only [Value.slice.injEq] at he; exact he.2.1
 have e2:kr = r.length:=by obtain ⟨_,_,_,he,_⟩:=hNr.1; simp only [Value.slice.injEq] at he; exact he.2.1
 have hqa:D.val q≤D.val a:=by
  rw [hval]
  have:=Nat.mul_le_mul_left (D.val q) hb0
  omega
 refine ⟨hk,s,aq,kq,cq,t,ar,kr,cr,rfl,⟨q,hNq.1,hRq,by rw [hiq,hid.1]⟩,⟨r,hNr.1,hRr,by rw [hir,hid.2]⟩,?_,?_,fun h0 => ?_⟩
 ·
  rw [e1]; exact D.len_le_of_val_le hRq.tr ha1.bd hqa
 ·
  rw [e2]; exact D.len_le_of_val_le hRr.tr hb1.bd (Nat.le_of_lt hlt)
 ·
  obtain ⟨b',n',c',he,hb'⟩:=hNq.2 (by omega)
  simp only [Value.slice.injEq] at he
  exact ⟨b',he.1,hb'⟩
end Go.Proofs.YtdcgdpbgnijnpaaGreat.D

/- Divide of shuntref01: its plain mathematics; an append of nothing. Divide of shuntref01: digit by digit from the top. Common of shuntref01: the greatest common divisor, by Euclid. Divide and Common of shuntref01, told as whole numbers. -/
import Derived.Test.YtdcfammglpebaaaGreatGak
import Derived.Laws.OwnMore
namespace Go.Proofs.YtdcfammglpebaaaGreat.D
open Go.RowKit
theorem run_append_nil {P:Program} {w:World} (base:Nat) (t ty e:TypeId) (i:TypeInfo) (size c:Nat) (ht:P.underlying t = some (.slice e)) (hi:P.info? e = some i)
  (v:Value) (n:Nat) (xs:List Value) (hown:w.ownsRow base e size v n xs) :
  (Builtin.append_ #[t,t] ty #[v,.slice none 0 c]).run P w = .ok v w:=by
 rcases hown.2 with ⟨rfl,rfl⟩ | ⟨g,cap,cur,rfl,_,_,hnc,_⟩
 ·
  simp [Builtin.append_,run_underlying ht,sizeOf,typeInfo,hi,Builtin.lenOf,Builtin.firstCells]
 ·
  simp [Builtin.append_,run_underlying ht,sizeOf,typeInfo,hi,Builtin.lenOf,Builtin.firstCells,hnc,storeCells]
theorem wpList_append_nil {P:Program} {w:World} {ops:Array Oper} {rest:List Oper} {o:Oper} {a:Act} {Q:Exit→Act→World→Prop} (hgd:o.guard = none) (s x:Operand) (t:TypeId)
  (ho:o.op = .call { callee:=.builtin .append,args:=#[s,x],argTypes:=#[t,t] })
  (base:Nat) (e:TypeId) (i:TypeInfo) (size c:Nat) (ht:P.underlying t = some (.slice e)) (hi:P.info? e = some i)
  (v:Value) (n:Nat) (xs:List Value) (hs:a.eval s = v) (hown:w.ownsRow base e size v n xs) (hx:a.eval x = .slice none 0 c)
  (h:wpList P ops Q rest (a.put o.dst v) w):wpList P ops Q (o :: rest) a w:=by
 refine wpList_plain hgd fun K hK => ?_
 have hrun:=run_append_nil (P:=P) (w:=w) base t o.type e i size c ht hi v n xs hown
 unfold Oper.wp
 simp [execOp,ho,resolve,invoke,builtin,hs,hx,hrun,Result.andThen]
 exact hK _ _ h
theorem quo_step {a o:List Nat} {i A B R x q R':Nat} (hi:i < a.length) (hio:i < o.length) (hx:x = a.getD i 0) (hB:0 < B) (h:D.val (a.drop (i + 1)) = D.val (o.drop (i + 1)) * B + R) (hq:q = (x + 65536 * R) / B) (hR:R' = (x + 65536 * R) % B) (hA:A = D.val (a.drop i)) :
  A = D.val ((o.set i q).drop i) * B + R'∧R' < B:=by
 have e1:=D.drop_getD a i hi
 have e2:(o.set i q).drop i = q :: o.drop (i + 1):=by
  rw [List.drop_eq_getElem_cons (by rw [List.length_set]; exact hio)]
  simp [List.drop_set]
 have e3:=Nat.div_add_mod (x + 65536 * R) B
 rw [← hq,← hR] at e3
 rw [e2,D.val,hA,e1,← hx,h]
 refine ⟨?_,by rw [hR]; exact Nat.mod_lt _ hB⟩
 clear e1 e2 h hA hx
 generalize D.val (o.drop (i + 1)) = O at *
 have e4:(q + 65536 * O) * B = B * q + 65536 * (O * B):=by grind
 rw [e4]
 generalize B * q = Z at *
 generalize O * B = Y at *
 omega
theorem row_zeros (w:World) (n:Nat):(w.alloc (.cells (madeCells #[.int .i64 0] n) 3)).rowIs w.heap.size 3 n (fun j => .int .i64 (((List.replicate n 0).getD j 0:Nat):Int)) :=
 (D.row_made w n).congr (fun j _ => by
  rw [List.getD_eq_getElem?_getD,List.getD_eq_getElem?_getD,List.getElem?_replicate]
  split <;> simp)
theorem int_tdiv {m n:Bool} {a b q r:List Nat} (h:D.val a = D.val q * D.val b + D.val r) (hlt:D.val r < D.val b):int (m != n) q = Int.tdiv (int m a) (int n b)∧int m r = Int.tmod (int m a) (int n b):=by
 have hq:D.val a / D.val b = D.val q:=by rw [h,Nat.mul_comm,Nat.mul_add_div (by omega),Nat.div_eq_of_lt hlt]; rfl
 have hr:D.val a % D.val b = D.val r:=by rw [h,Nat.mul_comm,Nat.mul_add_mod,Nat.mod_eq_of_lt hlt]
 have e1:Int.tdiv (D.val a:Int) (D.val b:Int) = ((D.val q:Nat):Int):=by rw [← Int.ofNat_tdiv,hq]
 have e2:Int.tmod (D.val a:Int) (D.val b:Int) = ((D.val r:Nat):Int):=by rw [← Int.ofNat_tmod,hr]
 unfold int
 cases m <;> cases n <;> simp [Int.tdiv_neg,Int.neg_tdiv,Int.tmod_neg,Int.neg_tmod,e1,e2]
end Go.Proofs.YtdcfammglpebaaaGreat.D

namespace Go.Proofs.YtdcfammglpebaaaGreat.D
open Go.RowKit
def DivRes (B:Nat) (w':World) (e:Ending) (m n:Bool) (a b:List Nat):Prop :=
 ∃ s aq kq cq q t ar kr cr r,e = .returned (.tuple #[.agg #[.bool s,.slice aq kq cq],.agg #[.bool t,.slice ar kr cr]])∧NewE B w' (.slice aq kq cq) q∧NewE B w' (.slice ar kr cr) r∧D.Right s q∧D.Right t r∧D.val a = D.val q * D.val b + D.val r∧D.val r < D.val b∧int s q = int (m != n) q∧int t r = int m r
theorem Sl.shape {w:World} {v:Value} {l:List Nat} (h:Sl w v l):∃ ao cap,v = .slice ao l.length cap:=by
 obtain ⟨_,ao,cap,rfl,_⟩:=h
 exact ⟨ao,cap,rfl⟩
theorem box_kept4 {w w1:World} {c0 c1 d0 d1 e0 e1 f0 f1:Value} {t u x y:TypeId} (h:Kept ((((w.alloc (.cells #[c0,c1] t)).alloc (.cells #[d0,d1] u)).alloc (.cells #[e0,e1] x)).alloc (.cells #[f0,f1] y)) w1) :
  w1.cell? ⟨w.heap.size,0,none⟩ = some c0∧w1.cell? ⟨w.heap.size,1,none⟩ = some c1∧w1.cell? ⟨w.heap.size + 1,0,none⟩ = some d0∧w1.cell? ⟨w.heap.size + 1,1,none⟩ = some d1∧w1.cell? ⟨w.heap.size + 1 + 1,0,none⟩ = some e0∧w1.cell? ⟨w.heap.size + 1 + 1,1,none⟩ = some e1∧w1.cell? ⟨w.heap.size + 1 + 1 + 1,0,none⟩ = some f0∧w1.cell? ⟨w.heap.size + 1 + 1 + 1,1,none⟩ = some f1:=by
 obtain ⟨h1,h2,h3,h4,h5,h6⟩:=box_kept3 (((Kept.refl _).alloc _).trans h)
 refine ⟨h1,h2,h3,h4,h5,h6,?_,?_⟩ <;> (rw [h.cells _ _ (by simp),World.cell?_alloc_at _ _ _ _ (by simp)]; rfl)
theorem news_nil {w:World} {ad:Addr}:∀ j u,(us ([]:List Nat))[j]? = some u→w.cell? (ad.add j) = some u:=by
 intro j u hu
 simp [us] at hu
theorem right_sg {neg:Bool} {l:List Nat} (hb:D.Bd l) (ht:D.Tr l):D.Right (neg && decide (0 < l.length)) l∧int (neg && decide (0 < l.length)) l = int neg l:=by
 by_cases h0:0 < l.length
 ·
  simp only [h0,decide_true,Bool.and_true]
  exact ⟨⟨hb,ht,fun e => by rw [e] at h0; simp at h0⟩,trivial⟩
 ·
  have:l = []:=List.length_eq_zero_iff.1 (by omega)
  subst this
  exact ⟨⟨hb,ht,fun _ => by simp⟩,by cases neg <;> simp [int,D.val]⟩
set_option maxRecDepth 100000 in
set_option maxHeartbeats 4000000 in
theorem Divide_raw (m n:Bool) (aoa aob:Option Addr) (capa capb:Nat) (a b:List Nat) (w:World) (ha:Sl w (.slice aoa a.length capa) a) (hb:Sl w (.slice aob b.length capb) b) (hla:a.length≤60000) (hlb:b.length≤60000) (tb:D.Tr b) (hb0:0 < D.val b) :
  Calls Tryz.prog 77 #[.agg #[.bool m,.slice aoa a.length capa],.agg #[.bool n,.slice aob b.length capb]] w fun e w' => Kept w w'∧DivRes w.heap.size w' e m n a b:=by
 have HA:Hid (Sl w (.slice aoa a.length capa) a):=ha
 have HB:Hid (Sl w (.slice aob b.length capb) b∧D.Tr b∧0 < D.val b):=⟨hb,tb,hb0⟩
 have bda:=ha.bd
 have bdb:=hb.bd
 obtain ⟨ka,hka⟩:∃ ka,ka = a.length:=⟨_,rfl⟩
 obtain ⟨kb,hkb⟩:∃ kb,kb = b.length:=⟨_,rfl⟩
 rw [← hka,← hkb]
 rw [← hka] at HA hla
 rw [← hkb] at HB hlb
 have HL:Hid (ka = a.length∧kb = b.length):=⟨hka,hkb⟩
 obtain ⟨i0,hi,hz0,hz1,hz2⟩:=info_parts infoI
 have hmk:=make_digits ka (by omega)
 clear ha hb tb hb0 hka hkb
 have K4:∀ x y t u,Kept w ((((w.alloc x).alloc y).alloc t).alloc u):=fun x y t u => ((((Kept.refl w).alloc x).alloc y).alloc t).alloc u
 go_enter Tryz.func77,Tryz.ntmps77
 go_wp2
 have hrow0:=row_zeros ((((w.alloc (.cells #[.bool m,.slice aoa ka capa] 51)).alloc (.cells #[.bool n,.slice aob kb capb] 51)).alloc (.cells #[.bool false,.slice none 0 0] 51)).alloc (.cells #[.bool false,.slice none 0 0] 51)) ka
 have HROW0:Hid (((((((w.alloc (.cells #[.bool m,.slice aoa ka capa] 51)).alloc (.cells #[.bool n,.slice aob kb capb] 51)).alloc (.cells #[.bool false,.slice none 0 0] 51)).alloc (.cells #[.bool false,.slice none 0 0] 51)).alloc (.cells (madeCells #[.int .i64 0] ka) 3)).rowIs (w.heap.size + 1 + 1 + 1 + 1) 3 ka (fun j => .int .i64 (((List.replicate ka 0).getD j 0:Nat):Int)))):=by
  simp only [World.size_alloc] at hrow0
  exact hrow0
 clear hrow0 hmk
 go_loopw [7,8] (fun vr vi wr => ∃ (k nr capr:Nat) (aor:Option Addr) (o r:List Nat),k≤ka∧nr≤60000∧vi = .int .i64 ((k:Int) - 1)∧vr = .slice aor nr capr ∧
   Hid (nr = r.length∧NewE (w.heap.size + 1 + 1 + 1 + 1) wr (.slice aor nr capr) r∧D.Tr r∧D.val r < D.val b∧o.length = ka∧D.Bd o∧D.val (a.drop k) = D.val (o.drop k) * D.val b + D.val r) ∧
   Hid (wr.rowIs (w.heap.size + 1 + 1 + 1 + 1) 3 ka (fun j => .int .i64 ((o.getD j 0:Nat):Int))) ∧
   Hid (Kept ((((w.alloc (.cells #[.bool m,.slice aoa ka capa] 51)).alloc (.cells #[.bool n,.slice aob kb capb] 51)).alloc (.cells #[.bool false,.slice none 0 0] 51)).alloc (.cells #[.bool false,.slice none 0 0] 51)) wr)) (fun _ vi _ => (intOf vi + 1).toNat)
 case atStart =>
  refine ⟨ka,0,0,none,List.replicate ka 0,[],Nat.le_refl _,by omega,rfl,rfl,⟨rfl,⟨Sl.nil _ _ _,fun h => by simp at h⟩,.inl rfl,HB.out.2.2,List.length_replicate,Bd_replicate ka,?_⟩,HROW0.out,(Kept.refl _).alloc _⟩
  rw [List.drop_of_length_le (l:=a) (by rw [← HL.out.1]; exact Nat.le_refl _),List.drop_of_length_le (by rw [List.length_replicate]; exact Nat.le_refl _)]
  simp [D.val]
 case round =>
  obtain ⟨k,nr,capr,aor,o,r,hk,hnr,rfl,rfl,hr,hrow,hkept⟩:=hrel
  obtain ⟨hA0,hA1,hB0,hB1,hC0,hC1,hD0,hD1⟩:=box_kept4 hkept.out
  by_cases h0:k = 0
  ·
   subst h0
   obtain ⟨e1,hS,tr,hlt,hol,hbo,hval⟩:=hr.out
   rw [List.drop_zero,List.drop_zero] at hval
   have HQ:Hid (New (w.heap.size + 1 + 1 + 1 + 1) wr (.slice (some ⟨w.heap.size + 1 + 1 + 1 + 1,0,none⟩) ka ka) o):=New.of_row hrow.out hbo hol.symm (Nat.le_refl _) (Nat.le_refl _)
   have HR:Hid (nr = r.length∧NewE (w.heap.size + 1 + 1 + 1 + 1) wr (.slice aor nr capr) r∧D.Tr r∧D.val r < D.val b∧D.val a = D.val o * D.val b + D.val r∧o.length = ka):=⟨e1,hS,tr,hlt,hval,hol⟩
   have hfz:∀ k,wr.frozen? ⟨w.heap.size + 1 + 1,k,none⟩ = false:=fun k => by rw [hkept.out.frozens (w.heap.size + 1 + 1) k (by simp)]; exact (World.frozen?_alloc_past _ _ _ (by simp)).trans (World.frozen?_alloc_at _ _ _ _ (by simp))
   have hfz2:∀ k,wr.frozen? ⟨w.heap.size + 1 + 1 + 1,k,none⟩ = false:=fun k => by rw [hkept.out.frozens (w.heap.size + 1 + 1 + 1) k (by simp)]; exact World.frozen?_alloc_at _ _ _ _ (by simp)
   have HKW:Hid (Kept w wr):=(K4 _ _ _ _).trans hkept.out
   clear e1 hS tr hlt hol hbo hval hA1 hB1 K4
   go_wp2_with fail
   refine (trim_newE _ HQ.out (by rw [HR.out.2.2.2.2.2]; omega)).mono ?_
   rintro e w1 ⟨rfl,vq,q,rfl,hsq,htq,hvq,hlq⟩
   obtain ⟨aq,cq,rfl⟩:=hsq.1.shape
   have hql:q.length≤60000:=by have:=HR.out.2.2.2.2.2; omega
   have h1:=right_sg (neg:=(m != n)) hsq.1.bd htq
   have h2:=right_sg (neg:=m) HR.out.2.1.1.bd HR.out.2.2.1
   rw [← HR.out.1] at h2
   obtain ⟨kq,hkq⟩:∃ kq,kq = q.length:=⟨_,rfl⟩
   rw [← hkq] at h1 hsq hql ⊢
   have HF:Hid (NewE (w.heap.size + 1 + 1 + 1 + 1) w1 (.slice aq kq cq) q∧D.Right ((m != n) && decide (0 < kq)) q∧int ((m != n) && decide (0 < kq)) q = int (m != n) q∧D.Right (m && decide (0 < nr)) r∧int (m && decide (0 < nr)) r = int m r∧D.val a = D.val q * D.val b + D.val r):=⟨hsq,h1.1,h1.2,h2.1,h2.2,by rw [hvq]; exact HR.out.2.2.2.2.1⟩
   clear h1 h2 hsq htq hvq hlq hkq
   have hne:∀ k k',(⟨w.heap.size + 1 + 1 + 1,k,none⟩:Addr) ≠ ⟨w.heap.size + 1 + 1,k',none⟩:=fun k k' h => by simp at h
   cases m <;> cases n
   ·
    go_wp2
    refine bodyPost_ret (v:=.tuple #[.agg #[.bool false,.slice aq kq cq],.agg #[.bool false,.slice aor nr capr]]) (by simp [results,Tryz.results77,go_sem,hC0,hC1,hD0,hD1]) rfl ⟨?_,_,aq,kq,cq,q,_,aor,nr,capr,r,rfl,?_,?_,HF.out.2.1,HF.out.2.2.2.1,HF.out.2.2.2.2.2,HR.out.2.2.2.1,HF.out.2.2.1,HF.out.2.2.2.2.1⟩
    ·
     exact (((HKW.out.setCell (by simp; omega) _).setCell (by simp; omega) _).setCell (by simp; omega) _).setCell (by simp; omega) _
    ·
     exact ((((HF.out.1.otherE (by simp) _).otherE (by simp) _).otherE (by simp) _).otherE (by simp) _).mono (by omega)
    ·
     exact ((((HR.out.2.1.otherE (by simp) _).otherE (by simp) _).otherE (by simp) _).otherE (by simp) _).mono (by omega)
   ·
    go_wp2
    refine bodyPost_ret (v:=.tuple #[.agg #[.bool (decide (0 < kq)),.slice aq kq cq],.agg #[.bool false,.slice aor nr capr]]) (by simp [results,Tryz.results77,go_sem,hC0,hC1,hD0,hD1]) rfl ⟨?_,_,aq,kq,cq,q,_,aor,nr,capr,r,rfl,?_,?_,HF.out.2.1,HF.out.2.2.2.1,HF.out.2.2.2.2.2,HR.out.2.2.2.1,HF.out.2.2.1,HF.out.2.2.2.2.1⟩
    ·
     exact (((HKW.out.setCell (by simp; omega) _).setCell (by simp; omega) _).setCell (by simp; omega) _).setCell (by simp; omega) _
    ·
     exact ((((HF.out.1.otherE (by simp) _).otherE (by simp) _).otherE (by simp) _).otherE (by simp) _).mono (by omega)
    ·
     exact ((((HR.out.2.1.otherE (by simp) _).otherE (by simp) _).otherE (by simp) _).otherE (by simp) _).mono (by omega)
   ·
    go_wp2
    refine bodyPost_ret (v:=.tuple #[.agg #[.bool (decide (0 < kq)),.slice aq kq cq],.agg #[.bool (decide (0 < nr)),.slice aor nr capr]]) (by simp [results,Tryz.results77,go_sem,hC0,hC1,hD0,hD1]) rfl ⟨?_,_,aq,kq,cq,q,_,aor,nr,capr,r,rfl,?_,?_,HF.out.2.1,HF.out.2.2.2.1,HF.out.2.2.2.2.2,HR.out.2.2.2.1,HF.out.2.2.1,HF.out.2.2.2.2.1⟩
    ·
     exact (((HKW.out.setCell (by simp; omega) _).setCell (by simp; omega) _).setCell (by simp; omega) _).setCell (by simp; omega) _
    ·
     exact ((((HF.out.1.otherE (by simp) _).otherE (by simp) _).otherE (by simp) _).otherE (by simp) _).mono (by omega)
    ·
     exact ((((HR.out.2.1.otherE (by simp) _).otherE (by simp) _).otherE (by simp) _).otherE (by simp) _).mono (by omega)
   ·
    go_wp2
    refine bodyPost_ret (v:=.tuple #[.agg #[.bool false,.slice aq kq cq],.agg #[.bool (decide (0 < nr)),.slice aor nr capr]]) (by simp [results,Tryz.results77,go_sem,hC0,hC1,hD0,hD1]) rfl ⟨?_,_,aq,kq,cq,q,_,aor,nr,capr,r,rfl,?_,?_,HF.out.2.1,HF.out.2.2.2.1,HF.out.2.2.2.2.2,HR.out.2.2.2.1,HF.out.2.2.1,HF.out.2.2.2.2.1⟩
    ·
     exact (((HKW.out.setCell (by simp; omega) _).setCell (by simp; omega) _).setCell (by simp; omega) _).setCell (by simp; omega) _
    ·
     exact ((((HF.out.1.otherE (by simp) _).otherE (by simp) _).otherE (by simp) _).otherE (by simp) _).mono (by omega)
    ·
     exact ((((HR.out.2.1.otherE (by simp) _).otherE (by simp) _).otherE (by simp) _).otherE (by simp) _).mono (by omega)
  ·
   obtain ⟨i,rfl⟩:∃ i,k = i + 1:=⟨k - 1,by omega⟩
   have hil:i < ka:=by omega
   have e1:((i + 1:Nat):Int) - 1 = (i:Int):=by omega
   rw [e1]
   have hKW:Kept w wr:=(K4 _ _ _ _).trans hkept.out
   obtain ⟨ba,oa,rfl,hcapa,hca⟩:∃ ba oa,aoa = some ⟨ba,oa,none⟩∧ka≤capa∧wr.cell? ⟨ba,oa + i,none⟩ = some (.int .i64 ((a.getD i 0:Nat):Int)):=by
    obtain ⟨_,ao',cap',he,hx⟩:=HA.out.kept hKW
    simp only [Value.slice.injEq] at he
    obtain ⟨rfl,e2,rfl⟩:=he
    obtain ⟨h1,b',off,rfl,_,hc⟩:=hx (by omega)
    exact ⟨b',off,rfl,by omega,hc i (by omega)⟩
   have hxb:=bda.getD i
   obtain ⟨x,hx⟩:∃ x,x = a.getD i 0:=⟨_,rfl⟩
   rw [← hx] at hca hxb
   have HX:Hid (x = a.getD i 0):=hx
   clear hx hC0 hC1 hD0 hD1 hA0
   have hsz:∀ y,wr.heap.size≤(wr.alloc y).heap.size:=fun y => by simp
   have hlit:(wr.alloc (.cells #[.int .i64 (x:Int)] 3)).ownsRow wr.heap.size 3 1 (.slice (some ⟨wr.heap.size,0,none⟩) 1 1) 1 [.int .i64 (x:Int)]:=World.ownsRow_lit wr #[.int .i64 (x:Int)] 1 (Nat.le_refl _) (by unfold maxLen; omega) rfl
   have HLIT:Hid ((wr.alloc (.cells #[.int .i64 (x:Int)] 3)).ownsRow wr.heap.size 3 1 (.slice (some ⟨wr.heap.size,0,none⟩) 1 1) 1 [.int .i64 (x:Int)]):=hlit
   have hm1:1 + nr≤maxLen:=by unfold maxLen; omega
   have hm2:(1 + nr) * 8≤140737488355328:=by omega
   clear hlit
   have hrl:r.length≤60000:=by rw [← hr.out.1]; exact hnr
   have HR:Hid (D.Tr r∧D.val r < D.val b∧o.length = ka∧D.Bd o∧D.val (a.drop (i + 1)) = D.val (o.drop (i + 1)) * D.val b + D.val r):=hr.out.2.2
   have HKW:Hid (Kept w wr):=hKW
   clear hKW
   cases aor
   case' none =>
    have hnr0:nr = 0:=by
     obtain ⟨_,ao',cap',he,hx⟩:=hr.out.2.1.1
     simp only [Value.slice.injEq] at he
     obtain ⟨rfl,e2,rfl⟩:=he
     rcases Nat.eq_zero_or_pos nr with h | h
     ·
      exact h
     ·
      obtain ⟨_,b',off,e,_⟩:=hx (by omega)
      cases e
    subst hnr0
    have hrn:r = []:=List.length_eq_zero_iff.1 hr.out.1.symm
    go_wp2_with (at_builtin; refine wpList_append_nil _ rfl _ _ 41 rfl wr.heap.size 3 i0 1 capr Tryz.underlying41 hi _ _ _ rfl HLIT.out rfl ?_)
    obtain ⟨w3,hw3⟩:∃ w3,w3 = wr.alloc (.cells #[.int .i64 (x:Int)] 3):=⟨_,rfl⟩
    obtain ⟨v3,hv3⟩:∃ v3,v3 = Value.slice (some ⟨wr.heap.size,0,none⟩) 1 1:=⟨_,rfl⟩
    have H3:Hid (New wr.heap.size w3 v3 (x :: r)∧Kept wr w3):=by
     have h9:=HLIT.out
     rw [← hw3,← hv3] at h9
     rw [hrn]
     refine ⟨(New.of_owns (l:=[x]) h9 (fun y hy => by simp at hy; omega)),?_⟩
     ·
      rw [hw3]; exact (Kept.refl wr).alloc _
    rw [← hw3,← hv3]
    clear hw3 hv3 hr HLIT hrn
   case' some ad =>
    have hnw:∀ j u,(us r)[j]? = some u→(wr.alloc (.cells #[.int .i64 (x:Int)] 3)).cell? (ad.add j) = some u:=by
     by_cases hr0:0 < r.length
     ·
      obtain ⟨_,ao',cap',he,hx⟩:=hr.out.2.1.1.kept ((Kept.refl wr).alloc (.cells #[.int .i64 (x:Int)] 3))
      simp only [Value.slice.injEq] at he
      obtain ⟨rfl,e2,rfl⟩:=he
      obtain ⟨_,b',off,e,_,hc⟩:=hx hr0
      cases e
      exact Sl.news hc
     ·
      rw [List.length_eq_zero_iff.1 (Nat.eq_zero_of_not_pos hr0)]; exact news_nil
    have HNW:Hid (∀ j u,(us r)[j]? = some u→(wr.alloc (.cells #[.int .i64 (x:Int)] 3)).cell? (ad.add j) = some u):=hnw
    have hus:(us r).length = nr * 1:=by rw [hr.out.1]; simp [us]
    have HUS:Hid ((us r).length = nr * 1):=hus
    clear hnw hus
    go_wp2_with (at_builtin; refine wpList_append_own _ rfl _ _ 41 rfl wr.heap.size 3 i0 (.int .i64 0) 1 8 Tryz.underlying41 hi hz0 hz1 hz2 rfl (by decide) _ _ _ rfl HLIT.out ad nr capr (us r) rfl HUS.out HNW.out (us_oneCell r) hm1 hm2 (by exact hsz _) ?_)
    intro v3 w3 hown hgrow _
    have H3:Hid (New wr.heap.size w3 v3 (x :: r)∧Kept wr w3):=by
     refine ⟨(New.of_owns (n:=1 + nr) (l:=x :: r) hown (fun y hy => ?_)),Below.grown ((Below.refl _ wr).alloc (Nat.le_refl _) _) hgrow (by simp) (fun j hj => by simp [Value.ownBlock] at hj; omega)⟩
     rcases List.mem_cons.1 hy with rfl | h
     ·
      exact hxb
     ·
      exact hr.out.2.1.1.bd y h
    clear hown hgrow hr HLIT HNW HUS
    go_wp2_with fail
   all_goals
    refine (trim_newE _ H3.out.1 (by simp; omega)).mono ?_
    rintro e w4 ⟨rfl,v4,l4,rfl,hs4,ht4,hv4,hl4⟩
    obtain ⟨ao4,cap4,rfl⟩:=hs4.1.shape
    have hl4':l4.length≤60001:=by simp at hl4; omega
    have H4:Hid (Sl w4 (.slice ao4 l4.length cap4) l4∧D.Tr l4∧D.val l4 = x + 65536 * D.val r∧Kept wr w4∧NewE wr.heap.size w4 (.slice ao4 l4.length cap4) l4):=⟨hs4.1,ht4,hv4,H3.out.2,hs4⟩
    have hB1':=cell_kept H4.out.2.2.2.1 hB1
    clear hs4 ht4 hv4 hl4 hA1 hca hB0 hB1
    have hdg:=digit_any ao4 aob cap4 capb l4 b w4 H4.out.1 (by have h9:=HB.out.1.kept (HKW.out.trans H4.out.2.2.2.1); rw [HL.out.2] at h9; exact h9) (by omega) (by rw [← HL.out.2]; omega) H4.out.2.1 HB.out.2.1 HB.out.2.2 (by have h8:=H4.out.2.2.1; have h9:=HR.out.2.1; omega)
    rw [← HL.out.2] at hdg
    obtain ⟨qd,hqd⟩:∃ qd,qd = D.val l4 / D.val b:=⟨_,rfl⟩
    rw [← hqd] at hdg
    have HQD:Hid (qd = D.val l4 / D.val b∧qd < 65536):=⟨hqd,by rw [hqd,Nat.div_lt_iff_lt_mul HB.out.2.2]; have h8:=H4.out.2.2.1; have h9:=HR.out.2.1; omega⟩
    have HDG:Hid (Calls Tryz.prog 113 #[.slice ao4 l4.length cap4,.slice aob kb capb] w4 fun e w' => Kept w4 w'∧e = .returned (.int .i64 (qd:Int))):=hdg
    have hqb:qd < 65536:=HQD.out.2
    clear hdg hqd
    go_wp2_with fail
    refine HDG.out.mono ?_
    rintro e w5 ⟨hk5,rfl⟩
    have hB1'':=cell_kept hk5 hB1'
    have HK5:Hid (Kept wr w5∧Sl w5 (.slice ao4 l4.length cap4) l4∧NewE wr.heap.size w5 (.slice ao4 l4.length cap4) l4):=⟨H4.out.2.2.2.1.trans hk5,H4.out.1.kept hk5,H4.out.2.2.2.2.kept hk5⟩
    clear hk5 hB1' HDG
    by_cases hq0:qd = 0
    ·
     subst hq0
     have hl4s:D.val l4 < D.val b:=by
      have h9:=HQD.out.1
      rcases Nat.lt_or_ge (D.val l4) (D.val b) with h | h
      ·
       exact h
      ·
       have:=Nat.div_pos h HB.out.2.2; omega
     have hl4n:l4.length≤60000:=by
      have h1:=D.len_le_of_val_le H4.out.2.1 HB.out.1.bd (Nat.le_of_lt hl4s)
      have h2:=HL.out.2
      omega
     have HL4S:Hid (D.val l4 < D.val b):=hl4s
     clear hl4s
     have hrow5:w5.rowIs (w.heap.size + 1 + 1 + 1 + 1) 3 ka (fun j => .int .i64 ((o.getD j 0:Nat):Int)):=hrow.out.of_block (HK5.out.1.block _ hrow.out.lt)
     have hfz:w5.frozen? ⟨w.heap.size + 1 + 1 + 1 + 1,i,none⟩ = false:=hrow5.frozen _
     have hcz:w5.cell? ⟨w.heap.size + 1 + 1 + 1 + 1,i,none⟩ = some (.int .i64 ((o.getD i 0:Nat):Int)):=hrow5.cell hil
     have HROW5:Hid (w5.rowIs (w.heap.size + 1 + 1 + 1 + 1) 3 ka (fun j => .int .i64 ((o.getD j 0:Nat):Int))):=hrow5
     obtain ⟨z,hz⟩:∃ z:Int,z = ((o.getD i 0:Nat):Int):=⟨_,rfl⟩
     rw [← hz] at hcz
     clear hrow5 hz
     go_wp2
     go_roundw
     case rel =>
      have hR:=HR.out
      have hst:=quo_step (a:=a) (o:=o) (i:=i) (x:=x) (q:=0) (R:=D.val r) (B:=D.val b) (R':=D.val l4 % D.val b) (by rw [← HL.out.1]; exact hil) (by rw [hR.2.2.1]; exact hil) HX.out HB.out.2.2 hR.2.2.2.2 (by rw [HQD.out.1,H4.out.2.2.1]) (by rw [H4.out.2.2.1]) rfl
      have hgrs:w5.grownBy (w5.setCell ⟨w.heap.size + 1 + 1 + 1 + 1,i,none⟩ (.int .i64 ((0:Nat):Int))) (some (w.heap.size + 1 + 1 + 1 + 1)):=grown_set (World.grownBy.refl _ _) i _
      refine ⟨i,l4.length,cap4,ao4,o.set i 0,l4,by omega,(by omega),by go_num,rfl,⟨rfl,?_,H4.out.2.1,?_,by rw [List.length_set]; exact hR.2.2.1,Bd_set hR.2.2.2.1 _ _ HQD.out.2,?_⟩,row_set HROW5.out i (by rw [hR.2.2.1]; exact hil) 0 _ rfl,?_⟩
      ·
       exact (HK5.out.2.2.otherE (show w.heap.size + 1 + 1 + 1 + 1 < wr.heap.size from hrow.out.lt) _).mono (Nat.le_of_lt hrow.out.lt)
      ·
       rw [show D.val l4 = D.val l4 % D.val b from (Nat.mod_eq_of_lt HL4S.out).symm]; exact hst.2
      ·
       rw [show D.val l4 = D.val l4 % D.val b from (Nat.mod_eq_of_lt HL4S.out).symm]; exact hst.1
      ·
       exact (hkept.out.trans HK5.out.1).setCell (by simp) _
     case measure => simp [intOf]
    ·
     have hq1:0 < qd:=by omega
     have hfd:∀ (s:Bool) (ao:Option Addr) (n cap:Nat) (w:World),(Instr.field 51 (.agg #[.bool s,.slice ao n cap]) 1).run Tryz.prog w = .ok (.slice ao n cap) w:=fld1
     have HKB:∀ W,Kept w5 W→W.cell? ⟨w.heap.size + 1,1,none⟩ = some (.slice aob kb capb):=fun W hW => cell_kept hW hB1''
     have HKB':Hid (∀ W,Kept w5 W→W.cell? ⟨w.heap.size + 1,1,none⟩ = some (.slice aob kb capb)):=HKB
     have HBW:Hid (∀ W,Kept w5 W→Sl W (.slice aob b.length capb) b):=fun W hW => by have h9:=HB.out.1.kept ((HKW.out.trans HK5.out.1).trans hW); rw [HL.out.2] at h9; exact h9
     clear HKB
     have hkbl:b.length = kb:=HL.out.2.symm
     rw [hkbl] at HBW
     have HKBL:Hid (b.length = kb):=hkbl
     clear hkbl
     go_wp2_with fail
     go_region_held3 (fun w' => w'.cell? ⟨w.heap.size + 1,1,none⟩ = some (.slice aob kb capb)) (go_keep) (first
      | (go_at_call 37; refine (small_any qd _ hqb).mono ?_; rintro e w6 ⟨hk6,aos,ns,caps,ls,rfl,hs6,ht6,hv6,hl6⟩; obtain rfl:ns = ls.length:=(by obtain ⟨_,_,_,he,_⟩:=hs6; simp only [Value.slice.injEq] at he; exact he.2.1); have hb6:=HKB'.out _ ((Kept.refl w5).drew.trans hk6))
      | (go_at_call 61; have hT:=Times_raw false false aob aos capb caps b ls w6 (by have h9:=HBW.out w6 ((Kept.refl w5).drew.trans hk6); rw [← HKBL.out] at h9; exact h9) hs6 (by rw [HKBL.out]; omega) (by omega); rw [HKBL.out] at hT; refine hT.mono ?_; rintro e w7 ⟨hk7,aot,kt,capt,lt,rfl,hs7,ht7,hv7,hl7⟩; obtain rfl:kt = lt.length:=(by obtain ⟨_,_,_,he,_⟩:=hs7; simp only [Value.slice.injEq] at he; exact he.2.1); have hb7:=HKB'.out _ (((Kept.refl w5).drew.trans hk6).trans hk7))
      | (go_at_call 98; have hle:D.val lt≤D.val l4:=(by rw [hv7,hv6,HQD.out.1,Nat.mul_comm]; exact Nat.div_mul_le_self _ _); refine (minus_new _ _ l4 lt _ ((HK5.out.2.1.kept ((Kept.refl w5).drew.trans hk6)).kept hk7) hs7 (by omega) hle (D.len_le_of_val_le ht7 HK5.out.2.1.bd hle)).mono ?_; rintro e w8 ⟨hk8,v8,l8,rfl,hs8,ht8,hv8,hl8⟩; have hb8:=HKB'.out _ ((((Kept.refl w5).drew.trans hk6).trans hk7).trans hk8)))
     obtain ⟨ao8,cap8,rfl⟩:=hs8.1.shape
     have HK8:Hid (Kept wr w8∧NewE wr.heap.size w8 (.slice ao8 l8.length cap8) l8∧D.Tr l8∧D.val l8 = D.val l4 % D.val b):=by
      refine ⟨HK5.out.1.trans ((((Kept.refl w5).drew.trans hk6).trans hk7).trans hk8),hs8.mono ((HK5.out.1.trans (((Kept.refl w5).drew.trans hk6).trans hk7)).size),ht8,?_⟩
      rw [hv8,hv7,hv6,HQD.out.1,Nat.mod_def]
     have hl8':l8.length≤60000:=by
      have h1:=D.len_le_of_val_le ht8 HB.out.1.bd (by rw [HK8.out.2.2.2]; exact Nat.le_of_lt (Nat.mod_lt _ HB.out.2.2))
      have h2:=HL.out.2
      omega
     clear hk6 hk7 hk8 hs6 hs7 hs8 ht6 ht7 ht8 hv6 hv7 hv8 hl6 hl7 hl8 hb6 hb7 hb8 hB1'' hfd
     have hrow5:w8.rowIs (w.heap.size + 1 + 1 + 1 + 1) 3 ka (fun j => .int .i64 ((o.getD j 0:Nat):Int)):=hrow.out.of_block (HK8.out.1.block _ hrow.out.lt)
     have hfz:w8.frozen? ⟨w.heap.size + 1 + 1 + 1 + 1,i,none⟩ = false:=hrow5.frozen _
     have hcz:w8.cell? ⟨w.heap.size + 1 + 1 + 1 + 1,i,none⟩ = some (.int .i64 ((o.getD i 0:Nat):Int)):=hrow5.cell hil
     have HROW5:Hid (w8.rowIs (w.heap.size + 1 + 1 + 1 + 1) 3 ka (fun j => .int .i64 ((o.getD j 0:Nat):Int))):=hrow5
     obtain ⟨z,hz⟩:∃ z:Int,z = ((o.getD i 0:Nat):Int):=⟨_,rfl⟩
     rw [← hz] at hcz
     clear hrow5 hz
     go_wp2
     go_roundw
     case rel =>
      have hR:=HR.out
      have hst:=quo_step (a:=a) (o:=o) (i:=i) (x:=x) (q:=qd) (R:=D.val r) (B:=D.val b) (R':=D.val l4 % D.val b) (by rw [← HL.out.1]; exact hil) (by rw [hR.2.2.1]; exact hil) HX.out HB.out.2.2 hR.2.2.2.2 (by rw [HQD.out.1,H4.out.2.2.1]) (by rw [H4.out.2.2.1]) rfl
      have hgrs:w8.grownBy (w8.setCell ⟨w.heap.size + 1 + 1 + 1 + 1,i,none⟩ (.int .i64 (qd:Int))) (some (w.heap.size + 1 + 1 + 1 + 1)):=grown_set (World.grownBy.refl _ _) i _
      refine ⟨i,l8.length,cap8,ao8,o.set i qd,l8,by omega,(by omega),by go_num,rfl,⟨rfl,?_,HK8.out.2.2.1,?_,by rw [List.length_set]; exact hR.2.2.1,Bd_set hR.2.2.2.1 _ _ HQD.out.2,?_⟩,row_set HROW5.out i (by rw [hR.2.2.1]; exact hil) qd _ rfl,?_⟩
      ·
       exact (HK8.out.2.1.otherE (show w.heap.size + 1 + 1 + 1 + 1 < wr.heap.size from hrow.out.lt) _).mono (Nat.le_of_lt hrow.out.lt)
      ·
       rw [HK8.out.2.2.2]; exact hst.2
      ·
       rw [HK8.out.2.2.2]; exact hst.1
      ·
       exact (hkept.out.trans HK8.out.1).setCell (by simp) _
     case measure => simp [intOf]
end Go.Proofs.YtdcfammglpebaaaGreat.D

namespace Go.Proofs.YtdcfammglpebaaaGreat.D
open Go.RowKit
def Off (B C:Nat) (w:World) (v:Value) (l:List Nat):Prop:=Sl w v l∧(0 < l.length→∃ b off n cap,v = .slice (some ⟨b,off,none⟩) n cap∧(b < B ∨ C≤b))
theorem Off.kept {B C:Nat} {w w':World} {v:Value} {l:List Nat} (h:Off B C w v l) (k:Kept w w'):Off B C w' v l:=⟨h.1.kept k,h.2⟩
theorem Off.other {B C:Nat} {w:World} {v:Value} {l:List Nat} (h:Off B C w v l) {p:Addr} (h1:B≤p.block) (h2:p.block < C) (u:Value):Off B C (w.setCell p u) v l:=by
 refine ⟨?_,h.2⟩
 obtain ⟨⟨hb,ao,cap,rfl,hx⟩,h3⟩:=h
 refine ⟨hb,ao,cap,rfl,fun h0 => ?_⟩
 obtain ⟨h4,b,off,rfl,hlt,hc⟩:=hx h0
 refine ⟨h4,b,off,rfl,by simpa using hlt,fun j hj => ?_⟩
 obtain ⟨b',o',n',c',e,hB⟩:=h3 h0
 simp only [Value.slice.injEq,Option.some.injEq,Addr.mk.injEq] at e
 obtain ⟨⟨rfl,_,_⟩,_,_⟩:=e
 rw [World.cell?_setCell_other _ _ _ _ (by intro e; rw [e] at h1 h2; simp at h1 h2; omega)]
 exact hc j hj
theorem NewE.off {B C D':Nat} {w:World} {v:Value} {l:List Nat} (h:NewE D' w v l) (hC:C≤D'):Off B C w v l:=⟨h.1,fun h0 => by
 obtain ⟨b,n,cap,e,hb⟩:=h.2 h0
 exact ⟨b,0,n,cap,e,.inr (by omega)⟩⟩
theorem Sl.off {C:Nat} {w:World} {v:Value} {l:List Nat} (h:Sl w v l):Off w.heap.size C w v l:=⟨h,fun h0 => by
 obtain ⟨_,ao,cap,rfl,hx⟩:=h
 obtain ⟨_,b,off,rfl,hlt,_⟩:=hx h0
 exact ⟨b,off,_,cap,rfl,.inl hlt⟩⟩
def rdv (w:World):Value→Nat
 | .slice (some a) n _ => D.val ((List.range n).map (fun j => match w.cell? ⟨a.block,a.off + j,none⟩ with | some (.int _ x) => x.toNat | _ => 0))
 | _ => 0
theorem rdv_of {w:World} {v:Value} {l:List Nat} (h:Sl w v l):rdv w v = D.val l:=by
 obtain ⟨hb,ao,cap,rfl,hx⟩:=h
 cases ao with
 | none =>
  by_cases h0:0 < l.length
  ·
   obtain ⟨_,b,off,e,_⟩:=hx h0
   cases e
  ·
   have h1:l = []:=List.length_eq_zero_iff.1 (by omega)
   subst h1; rfl
 | some ad =>
  by_cases h0:0 < l.length
  ·
   obtain ⟨_,b,off,e,_,hc⟩:=hx h0
   cases e
   show D.val ((List.range l.length).map (fun j => match w.cell? ⟨b,off + j,none⟩ with | some (.int _ x) => x.toNat | _ => 0)) = D.val l
   congr 1
   apply List.ext_getElem (by simp)
   intro j h1 h2
   simp only [List.getElem_map,List.getElem_range]
   rw [hc j h2]
   simp [List.getD_eq_getElem?_getD,List.getElem?_eq_getElem h2]
  ·
   have h1:l = []:=List.length_eq_zero_iff.1 (by omega)
   subst h1; rfl
def rdc (w:World) (b:Nat):Nat:=match w.cell? ⟨b,1,none⟩ with | some v => rdv w v | none => 0
theorem rdc_of {w:World} {b:Nat} {v:Value} {l:List Nat} (hc:w.cell? ⟨b,1,none⟩ = some v) (h:Sl w v l):rdc w b = D.val l:=by
 unfold rdc; rw [hc]; exact rdv_of h
theorem pair_set {w:World} {A B:Nat} {c0 c1 d0 d1 e0 e1 f0 f1:Value} (hne:A ≠ B) (h0:w.cell? ⟨A,0,none⟩ = some c0) (h1:w.cell? ⟨A,1,none⟩ = some c1) (g0:w.cell? ⟨B,0,none⟩ = some d0) (g1:w.cell? ⟨B,1,none⟩ = some d1) :
  ((((w.setCell ⟨A,0,none⟩ e0).setCell ⟨A,1,none⟩ e1).setCell ⟨B,0,none⟩ f0).setCell ⟨B,1,none⟩ f1).cell? ⟨A,0,none⟩ = some e0 ∧
  ((((w.setCell ⟨A,0,none⟩ e0).setCell ⟨A,1,none⟩ e1).setCell ⟨B,0,none⟩ f0).setCell ⟨B,1,none⟩ f1).cell? ⟨A,1,none⟩ = some e1 ∧
  ((((w.setCell ⟨A,0,none⟩ e0).setCell ⟨A,1,none⟩ e1).setCell ⟨B,0,none⟩ f0).setCell ⟨B,1,none⟩ f1).cell? ⟨B,0,none⟩ = some f0 ∧
  ((((w.setCell ⟨A,0,none⟩ e0).setCell ⟨A,1,none⟩ e1).setCell ⟨B,0,none⟩ f0).setCell ⟨B,1,none⟩ f1).cell? ⟨B,1,none⟩ = some f1 ∧
  (∀ b o,b ≠ A→b ≠ B→((((w.setCell ⟨A,0,none⟩ e0).setCell ⟨A,1,none⟩ e1).setCell ⟨B,0,none⟩ f0).setCell ⟨B,1,none⟩ f1).cell? ⟨b,o,none⟩ = w.cell? ⟨b,o,none⟩):=by
 have n1:∀ i j,(⟨B,i,none⟩:Addr) ≠ ⟨A,j,none⟩:=fun i j e => hne (congrArg Addr.block e).symm
 have n2:∀ X:Nat,(⟨X,1,none⟩:Addr) ≠ ⟨X,0,none⟩:=fun X e => by simp at e
 have n3:∀ X:Nat,(⟨X,0,none⟩:Addr) ≠ ⟨X,1,none⟩:=fun X e => by simp at e
 have n4:∀ i j,(⟨A,i,none⟩:Addr) ≠ ⟨B,j,none⟩:=fun i j e => hne (congrArg Addr.block e)
 refine ⟨?_,?_,?_,?_,fun b o hA hB => ?_⟩
 ·
  rw [World.cell?_setCell_other _ _ _ _ (n1 1 0),World.cell?_setCell_other _ _ _ _ (n1 0 0),World.cell?_setCell_other _ _ _ _ (n2 A)]
  exact World.cell?_setCell_same _ _ _ h0
 ·
  rw [World.cell?_setCell_other _ _ _ _ (n1 1 1),World.cell?_setCell_other _ _ _ _ (n1 0 1)]
  exact World.cell?_setCell_same _ _ _ ((World.cell?_setCell_other _ _ _ _ (n3 A)).trans h1)
 ·
  rw [World.cell?_setCell_other _ _ _ _ (n2 B)]
  exact World.cell?_setCell_same _ _ _ (((World.cell?_setCell_other _ _ _ _ (n4 1 0)).trans (World.cell?_setCell_other _ _ _ _ (n4 0 0))).trans g0)
 ·
  exact World.cell?_setCell_same _ _ _ ((((World.cell?_setCell_other _ _ _ _ (n3 B)).trans (World.cell?_setCell_other _ _ _ _ (n4 1 1))).trans (World.cell?_setCell_other _ _ _ _ (n4 0 1))).trans g1)
 ·
  have m1:∀ i,(⟨A,i,none⟩:Addr) ≠ ⟨b,o,none⟩:=fun i e => hA (congrArg Addr.block e).symm
  have m2:∀ i,(⟨B,i,none⟩:Addr) ≠ ⟨b,o,none⟩:=fun i e => hB (congrArg Addr.block e).symm
  rw [World.cell?_setCell_other _ _ _ _ (m2 1),World.cell?_setCell_other _ _ _ _ (m2 0),World.cell?_setCell_other _ _ _ _ (m1 1),World.cell?_setCell_other _ _ _ _ (m1 0)]
theorem Off.pair {w:World} {v:Value} {l:List Nat} {B C:Nat} {e0 e1 f0 f1:Value} (h:Off B C w v l) {x y:Nat} (hx:B≤x∧x < C) (hy:B≤y∧y < C):Off B C ((((w.setCell ⟨x,0,none⟩ e0).setCell ⟨x,1,none⟩ e1).setCell ⟨y,0,none⟩ f0).setCell ⟨y,1,none⟩ f1) v l :=
 (((h.other hx.1 hx.2 _).other hx.1 hx.2 _).other hy.1 hy.2 _).other hy.1 hy.2 _
set_option maxHeartbeats 1000000 in
theorem Abs_any (m:Bool) (ao:Option Addr) (n cap:Nat) (w:World) :
  Calls Tryz.prog 133 #[.agg #[.bool m,.slice ao n cap]] w fun e w' => e = .returned (.agg #[.bool false,.slice ao n cap])∧Kept w w':=by
 go_enter Tryz.func133,Tryz.ntmps133
 go_wp2
 exact bodyPost_ret (v:=.agg #[.bool false,.slice ao n cap]) (by simp [results,Tryz.results133,go_sem]) rfl ⟨rfl,((Kept.refl w).alloc _).alloc _⟩
set_option maxRecDepth 100000 in
set_option maxHeartbeats 4000000 in
theorem Common_raw (m n:Bool) (aoa aob:Option Addr) (capa capb:Nat) (a b:List Nat) (w:World) (ha:Sl w (.slice aoa a.length capa) a) (hb:Sl w (.slice aob b.length capb) b) (hla:a.length≤60000) (hlb:b.length≤60000) (ta:D.Tr a) (tb:D.Tr b) :
  Calls Tryz.prog 119 #[.agg #[.bool m,.slice aoa a.length capa],.agg #[.bool n,.slice aob b.length capb]] w fun e w' => Kept w w'∧∃ ao k cap l,e = .returned (.agg #[.bool false,.slice ao k cap])∧Sl w' (.slice ao k cap) l∧D.Tr l∧D.val l = Nat.gcd (D.val a) (D.val b):=by
 have HA:Hid (Off w.heap.size (w.heap.size + 1 + 1 + 1) w (.slice aoa a.length capa) a∧D.Tr a):=⟨ha.off,ta⟩
 have HB:Hid (Off w.heap.size (w.heap.size + 1 + 1 + 1) w (.slice aob b.length capb) b∧D.Tr b):=⟨hb.off,tb⟩
 obtain ⟨ka,hka⟩:∃ ka,ka = a.length:=⟨_,rfl⟩
 obtain ⟨kb,hkb⟩:∃ kb,kb = b.length:=⟨_,rfl⟩
 rw [← hka,← hkb]
 rw [← hka] at HA hla
 rw [← hkb] at HB hlb
 have HL:Hid (ka = a.length∧kb = b.length):=⟨hka,hkb⟩
 obtain ⟨g,hg⟩:∃ g,g = Nat.gcd (D.val a) (D.val b):=⟨_,rfl⟩
 have HG:Hid (g = Nat.gcd (D.val a) (D.val b)):=hg
 rw [← hg]
 clear ha hb tb ta hka hkb hg
 have K3:∀ x y t,Kept w (((w.alloc x).alloc y).alloc t):=fun x y t => (((Kept.refl w).alloc x).alloc y).alloc t
 have HK3:Hid (∀ W,Kept (((w.alloc (.cells #[.bool m,.slice aoa ka capa] 51)).alloc (.cells #[.bool n,.slice aob kb capb] 51)).alloc (.cells #[.bool false,.slice none 0 0] 51)) W→W.cell? ⟨w.heap.size,0,none⟩ = some (.bool m)∧W.cell? ⟨w.heap.size,1,none⟩ = some (.slice aoa ka capa)∧W.cell? ⟨w.heap.size + 1,0,none⟩ = some (.bool n)∧W.cell? ⟨w.heap.size + 1,1,none⟩ = some (.slice aob kb capb)∧W.cell? ⟨w.heap.size + 1 + 1,0,none⟩ = some (.bool false)∧W.cell? ⟨w.heap.size + 1 + 1,1,none⟩ = some (.slice none 0 0)):=fun W h => box_kept3 h
 go_enter Tryz.func119,Tryz.ntmps119
 go_wp2_with fail
 go_region_with (first
  | (go_at_call_of 133 (Value.slice aoa ka capa); refine (Abs_any m aoa ka capa _).mono ?_; rintro e w1 ⟨rfl,hk1⟩; obtain ⟨hA0,hA1,hB0,hB1,hC0,hC1⟩:=HK3.out _ ((Kept.refl _).drew.trans hk1))
  | (go_at_call_of 133 (Value.slice aob kb capb); refine (Abs_any n aob kb capb _).mono ?_; rintro e w2 ⟨rfl,hk2⟩; obtain ⟨hA0',hA1',hB0',hB1',hC0',hC1'⟩:=HK3.out _ (((Kept.refl _).drew.trans hk1).trans hk2); have hf:=(((Kept.refl _).drew.trans hk1).trans hk2).frozens))
 all_goals
  have hps:=pair_set (e0:=.bool false) (e1:=.slice aoa ka capa) (f0:=.bool false) (f1:=.slice aob kb capb) (by omega:w.heap.size ≠ w.heap.size + 1) hA0' hA1' hB0' hB1'
  have hfz:∀ x o,w.heap.size≤x→x < w.heap.size + 1 + 1 + 1→w2.frozen? ⟨x,o,none⟩ = false:=fun x o h1 h2 => by
   rw [hf x o (by simp; omega)]
   rcases (by omega:x = w.heap.size ∨ x = w.heap.size + 1 ∨ x = w.heap.size + 1 + 1) with rfl | rfl | rfl
   ·
    exact (World.frozen?_alloc_past _ _ _ (by simp; omega)).trans ((World.frozen?_alloc_past _ _ _ (by simp)).trans (World.frozen?_alloc_at _ _ _ _ rfl))
   ·
    exact (World.frozen?_alloc_past _ _ _ (by simp)).trans (World.frozen?_alloc_at _ _ _ _ (by simp))
   ·
    exact World.frozen?_alloc_at _ _ _ _ (by simp)
  have hKw2:Kept w w2:=((K3 _ _ _).drew.trans hk1).trans hk2
  obtain ⟨w3,hw3⟩:∃ w3,w3 = (((w2.setCell ⟨w.heap.size,0,none⟩ (.bool false)).setCell ⟨w.heap.size,1,none⟩ (.slice aoa ka capa)).setCell ⟨w.heap.size + 1,0,none⟩ (.bool false)).setCell ⟨w.heap.size + 1,1,none⟩ (.slice aob kb capb):=⟨_,rfl⟩
  have hfz3:∀ x o,w.heap.size≤x→x < w.heap.size + 1 + 1 + 1→w3.frozen? ⟨x,o,none⟩ = false:=fun x o h1 h2 => by
   rw [hw3]; simp only [World.frozen?_setCell]; exact hfz x o h1 h2
  have hK3':Kept w w3:=by
   rw [hw3]; exact (((hKw2.setCell (Nat.le_refl _) _).setCell (Nat.le_refl _) _).setCell (Nat.le_succ _) _).setCell (Nat.le_succ _) _
  have hsz3:w.heap.size + 1 + 1 + 1≤w3.heap.size:=by
   have h1:=(hk1.trans hk2).size
   simp at h1
   rw [hw3]; simpa using h1
  have hOa:Off w.heap.size (w.heap.size + 1 + 1 + 1) w3 (.slice aoa ka capa) a:=by rw [hw3]; exact (HA.out.1.kept hKw2).pair (by omega) (by omega)
  have hOb:Off w.heap.size (w.heap.size + 1 + 1 + 1) w3 (.slice aob kb capb) b:=by rw [hw3]; exact (HB.out.1.kept hKw2).pair (by omega) (by omega)
  have hcc:w3.cell? ⟨w.heap.size + 1 + 1,0,none⟩ = some (.bool false)∧w3.cell? ⟨w.heap.size + 1 + 1,1,none⟩ = some (.slice none 0 0):=by
   rw [hw3]; exact ⟨(hps.2.2.2.2 _ _ (by omega) (by omega)).trans hC0',(hps.2.2.2.2 _ _ (by omega) (by omega)).trans hC1'⟩
  rw [← hw3] at hps ⊢
  have H3:Hid (w3.cell? ⟨w.heap.size,0,none⟩ = some (.bool false)∧w3.cell? ⟨w.heap.size,1,none⟩ = some (.slice aoa ka capa)∧w3.cell? ⟨w.heap.size + 1,0,none⟩ = some (.bool false)∧w3.cell? ⟨w.heap.size + 1,1,none⟩ = some (.slice aob kb capb)∧(w3.cell? ⟨w.heap.size + 1 + 1,0,none⟩ = some (.bool false)∧w3.cell? ⟨w.heap.size + 1 + 1,1,none⟩ = some (.slice none 0 0))∧(∀ x o,w.heap.size≤x→x < w.heap.size + 1 + 1 + 1→w3.frozen? ⟨x,o,none⟩ = false)∧Kept w w3∧w.heap.size + 1 + 1 + 1≤w3.heap.size∧Off w.heap.size (w.heap.size + 1 + 1 + 1) w3 (.slice aoa ka capa) a∧Off w.heap.size (w.heap.size + 1 + 1 + 1) w3 (.slice aob kb capb) b):=⟨hps.1,hps.2.1,hps.2.2.1,hps.2.2.2.1,hcc,hfz3,hK3',hsz3,hOa,hOb⟩
  clear hps hfz hKw2 hfz3 hK3' hsz3 hOa hOb hcc hw3 hf hk1 hk2 hA0' hA1' hB0' hB1' hC0' hC1' hA0 hA1 hB0 hB1 hC0 hC1 HK3 K3
  go_wp2
  go_loopw [14] (fun _ wr => ∃ (x y:List Nat) (aox aoy:Option Addr) (kx ky capx capy:Nat),kx≤60000∧ky≤60000 ∧
    wr.cell? ⟨w.heap.size,0,none⟩ = some (.bool false)∧wr.cell? ⟨w.heap.size,1,none⟩ = some (.slice aox kx capx)∧wr.cell? ⟨w.heap.size + 1,0,none⟩ = some (.bool false)∧wr.cell? ⟨w.heap.size + 1,1,none⟩ = some (.slice aoy ky capy) ∧
    wr.cell? ⟨w.heap.size + 1 + 1,0,none⟩ = some (.bool false)∧wr.cell? ⟨w.heap.size + 1 + 1,1,none⟩ = some (.slice none 0 0) ∧
    Hid (∀ x o,w.heap.size≤x→x < w.heap.size + 1 + 1 + 1→wr.frozen? ⟨x,o,none⟩ = false)∧Hid (Kept w wr∧w.heap.size + 1 + 1 + 1≤wr.heap.size) ∧
    Hid (kx = x.length∧ky = y.length∧Off w.heap.size (w.heap.size + 1 + 1 + 1) wr (.slice aox kx capx) x∧Off w.heap.size (w.heap.size + 1 + 1 + 1) wr (.slice aoy ky capy) y∧D.Tr x∧D.Tr y∧g = Nat.gcd (D.val x) (D.val y))) (fun _ wr => rdc wr (w.heap.size + 1))
  case atStart =>
   obtain ⟨c1,c2,c3,c4,c5,c6,c7,c8,c9,c10⟩:=H3.out
   exact ⟨a,b,aoa,aob,ka,kb,capa,capb,hla,hlb,c1,c2,c3,c4,c5.1,c5.2,c6,⟨c7,c8⟩,HL.out.1,HL.out.2,c9,c10,HA.out.2,HB.out.2,HG.out⟩
  case round =>
   obtain ⟨x,y,aox,aoy,kx,ky,capx,capy,hkx,hky,hA0,hA1,hB0,hB1,hC0,hC1,hfz,hkk,hr⟩:=hrel
   by_cases h0:ky = 0
   ·
    subst h0
    have HF:Hid (Kept w wr∧Off w.heap.size (w.heap.size + 1 + 1 + 1) wr (.slice aox kx capx) x∧D.Tr x∧D.val x = g):=by
     obtain ⟨e1,e2,hOx,hOy,tx,ty,hg⟩:=hr.out
     have:y = []:=List.length_eq_zero_iff.1 e2.symm
     subst this
     exact ⟨hkk.out.1,hOx,tx,by rw [hg]; simp [D.val]⟩
    have hf0:=hfz.out (w.heap.size + 1 + 1) 0 (by omega) (by omega)
    have hf1:=hfz.out (w.heap.size + 1 + 1) 1 (by omega) (by omega)
    clear hr
    go_wp2
    refine bodyPost_ret (v:=.agg #[.bool false,.slice aox kx capx]) (by simp [results,Tryz.results119,go_sem,hC0,hC1]) rfl ⟨?_,aox,kx,capx,x,rfl,?_,HF.out.2.2⟩
    ·
     exact (HF.out.1.setCell (by simp; omega) _).setCell (by simp; omega) _
    ·
     exact ((HF.out.2.1.other (by simp; omega) (by simp) _).other (by simp; omega) (by simp) _).1
   ·
    have h1:(0:Int) < (ky:Int):=by omega
    have hy0:0 < D.val y:=D.val_pos hr.out.2.2.2.2.2.1 (fun e => by have:=hr.out.2.1; rw [e] at this; simp at this; omega)
    have hD:=Divide_raw false false aox aoy capx capy x y wr (by have h9:=hr.out.2.2.1.1; rw [hr.out.1] at h9; exact h9) (by have h9:=hr.out.2.2.2.1.1; rw [hr.out.2.1] at h9; exact h9) (by rw [← hr.out.1]; exact hkx) (by rw [← hr.out.2.1]; exact hky) hr.out.2.2.2.2.2.1 hy0
    rw [← hr.out.1,← hr.out.2.1] at hD
    have HD:Hid (Calls Tryz.prog 77 #[.agg #[.bool false,.slice aox kx capx],.agg #[.bool false,.slice aoy ky capy]] wr fun e w' => Kept wr w'∧DivRes wr.heap.size w' e false false x y):=hD
    clear hD
    go_wp2_with fail
    refine HD.out.mono ?_
    rintro e w4 ⟨hk4,s4,aq,kq,cq,q,t4,ar,kr,cr,r,rfl,hNq,hNr,hRq,hRr,hval,hlt,hiq,hir⟩
    have ht4:t4 = false:=by
     by_cases hr0:r = []
     ·
      exact hRr.zero hr0
     ·
      have:=D.val_pos hRr.tr hr0
      unfold int at hir
      cases t4
      ·
       rfl
      ·
       simp at hir; omega
    subst ht4
    have e4:kr = r.length:=by obtain ⟨_,_,_,he,_⟩:=hNr.1; simp only [Value.slice.injEq] at he; exact he.2.1
    have hkr:kr≤60000:=by
     have h9:=D.len_le_of_val_le hRr.tr hr.out.2.2.2.1.1.bd (Nat.le_of_lt hlt)
     have h8:=hr.out.2.1
     omega
    have hA0:=cell_kept hk4 hA0
    have hA1:=cell_kept hk4 hA1
    have hB0:=cell_kept hk4 hB0
    have hB1:=cell_kept hk4 hB1
    have hC0:=cell_kept hk4 hC0
    have hC1:=cell_kept hk4 hC1
    have hfz4:∀ x o,w.heap.size≤x→x < w.heap.size + 1 + 1 + 1→w4.frozen? ⟨x,o,none⟩ = false:=fun x o h1 h2 => by
     rw [hk4.frozens x o (by have:=hkk.out.2; omega)]; exact hfz.out x o h1 h2
    have hsz:=hk4.size
    have hsz2:w.heap.size + 1 + 1 < w4.heap.size:=by have:=hkk.out.2; omega
    have hsz3:w.heap.size + 1 < w4.heap.size:=by omega
    have hsz4:w.heap.size < w4.heap.size:=by omega
    have hsz5:w.heap.size + 1 < w4.heap.size + 1:=by omega
    have hsz6:w.heap.size < w4.heap.size + 1:=by omega
    have H4:Hid (Kept w w4∧ky = y.length∧Off w.heap.size (w.heap.size + 1 + 1 + 1) w4 (.slice aoy ky capy) y∧NewE wr.heap.size w4 (.slice ar kr cr) r∧D.Tr y∧D.Tr r∧D.val r < D.val y∧g = Nat.gcd (D.val y) (D.val r)∧kr = r.length∧rdc wr (w.heap.size + 1) = D.val y):=by
     obtain ⟨e1,e2,hOx,hOy,tx,ty,hg⟩:=hr.out
     refine ⟨hkk.out.1.trans hk4,e2,hOy.kept hk4,hNr,ty,hRr.tr,hlt,?_,e4,rdc_of ‹_› hOy.1⟩
     rw [hg,Nat.gcd_comm,Nat.gcd_rec,hval,Nat.mul_comm,Nat.mul_add_mod,Nat.mod_eq_of_lt hlt,Nat.gcd_comm]
    have HFZ:Hid (∀ x o,w.heap.size≤x→x < w.heap.size + 1 + 1 + 1→w4.frozen? ⟨x,o,none⟩ = false):=hfz4
    have hf0:=hfz4 w.heap.size 0 (by omega) (by omega)
    have hf1:=hfz4 w.heap.size 1 (by omega) (by omega)
    have hf2:=hfz4 (w.heap.size + 1) 0 (by omega) (by omega)
    have hf3:=hfz4 (w.heap.size + 1) 1 (by omega) (by omega)
    clear hk4 hNq hNr hRq hRr hval hlt hiq hir hfz4 HD hr hfz e4
    go_wp2
    go_region
    all_goals
     obtain ⟨p0,p1,p2,p3,p4⟩:=pair_set (e0:=.bool false) (e1:=.slice aoy ky capy) (f0:=.bool false) (f1:=.slice ar kr cr) (by omega:w.heap.size ≠ w.heap.size + 1) hA0 hA1 hB0 hB1
     have pc0:=(p4 (w.heap.size + 1 + 1) 0 (by omega) (by omega)).trans hC0
     have pc1:=(p4 (w.heap.size + 1 + 1) 1 (by omega) (by omega)).trans hC1
     obtain ⟨w5,hw5⟩:∃ w5,w5 = (((w4.setCell ⟨w.heap.size,0,none⟩ (.bool false)).setCell ⟨w.heap.size,1,none⟩ (.slice aoy ky capy)).setCell ⟨w.heap.size + 1,0,none⟩ (.bool false)).setCell ⟨w.heap.size + 1,1,none⟩ (.slice ar kr cr):=⟨_,rfl⟩
     have hOy:Off w.heap.size (w.heap.size + 1 + 1 + 1) w5 (.slice aoy ky capy) y:=by rw [hw5]; exact H4.out.2.2.1.pair (by omega) (by omega)
     have hOr:Off w.heap.size (w.heap.size + 1 + 1 + 1) w5 (.slice ar kr cr) r:=by rw [hw5]; exact (H4.out.2.2.2.1.off hkk.out.2).pair (by omega) (by omega)
     have hK5:Kept w w5:=by rw [hw5]; exact (((H4.out.1.setCell (Nat.le_refl _) _).setCell (Nat.le_refl _) _).setCell (Nat.le_succ _) _).setCell (Nat.le_succ _) _
     have hs5:w.heap.size + 1 + 1 + 1≤w5.heap.size:=by rw [hw5]; simp; omega
     have hf5:∀ x o,w.heap.size≤x→x < w.heap.size + 1 + 1 + 1→w5.frozen? ⟨x,o,none⟩ = false:=fun x o h1 h2 => by rw [hw5]; simp only [World.frozen?_setCell]; exact HFZ.out x o h1 h2
     rw [← hw5] at p0 p1 p2 p3 pc0 pc1 ⊢
     have H5:Hid (w5.cell? ⟨w.heap.size,0,none⟩ = some (.bool false)∧w5.cell? ⟨w.heap.size,1,none⟩ = some (.slice aoy ky capy)∧w5.cell? ⟨w.heap.size + 1,0,none⟩ = some (.bool false)∧w5.cell? ⟨w.heap.size + 1,1,none⟩ = some (.slice ar kr cr)∧w5.cell? ⟨w.heap.size + 1 + 1,0,none⟩ = some (.bool false)∧w5.cell? ⟨w.heap.size + 1 + 1,1,none⟩ = some (.slice none 0 0)∧Kept w w5∧w.heap.size + 1 + 1 + 1≤w5.heap.size∧(∀ x o,w.heap.size≤x→x < w.heap.size + 1 + 1 + 1→w5.frozen? ⟨x,o,none⟩ = false)∧Off w.heap.size (w.heap.size + 1 + 1 + 1) w5 (.slice aoy ky capy) y∧Off w.heap.size (w.heap.size + 1 + 1 + 1) w5 (.slice ar kr cr) r):=⟨p0,p1,p2,p3,pc0,pc1,hK5,hs5,hf5,hOy,hOr⟩
     clear p0 p1 p2 p3 p4 pc0 pc1 hK5 hs5 hf5 hOy hOr hw5 hA0 hA1 hB0 hB1 hC0 hC1 hf0 hf1 hf2 hf3 hsz hsz2 hsz3 hsz4 hsz5 hsz6
     have hk5:Kept w5 ((w5.alloc (.cells #[.bool s4,.slice aq kq cq] 51)).alloc (.cells #[.bool false,.slice ar kr cr] 51)).drew:=(((Kept.refl w5).alloc _).alloc _).drew
     have HK5:Hid (Kept w5 ((w5.alloc (.cells #[.bool s4,.slice aq kq cq] 51)).alloc (.cells #[.bool false,.slice ar kr cr] 51)).drew):=hk5
     clear hk5
     go_wp2
     go_roundw
     case rel =>
      obtain ⟨q0,q1,q2,q3,q4,q5,q6,q7,q8,q9,q10⟩:=H5.out
      have hk5:=HK5.out
      have h4:=H4.out
      refine ⟨y,r,aoy,ar,ky,kr,capy,cr,hky,hkr,cell_kept hk5 q0,cell_kept hk5 q1,cell_kept hk5 q2,cell_kept hk5 q3,cell_kept hk5 q4,cell_kept hk5 q5,fun x o h1 h2 => ?_,⟨q6.trans hk5,Nat.le_trans q7 hk5.size⟩,h4.2.1,h4.2.2.2.2.2.2.2.2.1,q9.kept hk5,q10.kept hk5,h4.2.2.2.2.1,h4.2.2.2.2.2.1,h4.2.2.2.2.2.2.2.1⟩
      rw [hk5.frozens x o (by omega)]; exact q8 x o h1 h2
     case measure =>
      obtain ⟨q0,q1,q2,q3,q4,q5,q6,q7,q8,q9,q10⟩:=H5.out
      have hk5:=HK5.out
      have h1:=rdc_of (cell_kept hk5 q3) (q10.1.kept hk5)
      have h4:=H4.out
      have h2:=h4.2.2.2.2.2.2.2.2.2
      have h3:=h4.2.2.2.2.2.2.1
      show rdc _ (w.heap.size + 1) < rdc wr (w.heap.size + 1)
      omega
end Go.Proofs.YtdcfammglpebaaaGreat.D

namespace Go.Proofs.YtdcfammglpebaaaGreat.D
open Go.RowKit
theorem NIs.len {w:World} {s:Bool} {ao:Option Addr} {k cap:Nat} {z:Int} (h:NIs w s (.slice ao k cap) z):∃ l,Sl w (.slice ao l.length cap) l∧D.Right s l∧int s l = z∧k = l.length:=by
 obtain ⟨l,h1,h2,h3⟩:=h
 have e:k = l.length:=by obtain ⟨_,_,_,he,_⟩:=h1; simp only [Value.slice.injEq] at he; exact he.2.1
 subst e
 exact ⟨l,h1,h2,h3,rfl⟩
theorem Divide_any (m n:Bool) (aoa aob:Option Addr) (ka kb capa capb:Nat) (x y:Int) (w:World) (ha:NIs w m (.slice aoa ka capa) x) (hb:NIs w n (.slice aob kb capb) y) (hla:ka≤60000) (hlb:kb≤60000) (hy:y ≠ 0) :
  Calls Tryz.prog 77 #[.agg #[.bool m,.slice aoa ka capa],.agg #[.bool n,.slice aob kb capb]] w fun e w' => Kept w w'∧∃ s aq kq cq t ar kr cr,e = .returned (.tuple #[.agg #[.bool s,.slice aq kq cq],.agg #[.bool t,.slice ar kr cr]])∧NIs w' s (.slice aq kq cq) (Int.tdiv x y)∧NIs w' t (.slice ar kr cr) (Int.tmod x y)∧kq≤ka∧kr≤kb:=by
 obtain ⟨a,ha1,ha2,rfl,rfl⟩:=ha.len
 obtain ⟨b,hb1,hb2,rfl,rfl⟩:=hb.len
 have hb0:0 < D.val b:=by
  rcases Nat.eq_zero_or_pos (D.val b) with h | h
  ·
   exfalso; apply hy; unfold int; rw [h]; cases n <;> rfl
  ·
   exact h
 refine (Divide_raw m n aoa aob capa capb a b w ha1 hb1 hla hlb hb2.tr hb0).mono ?_
 rintro e w' ⟨hk,s,aq,kq,cq,q,t,ar,kr,cr,r,rfl,hNq,hNr,hRq,hRr,hval,hlt,hiq,hir⟩
 have hid:=int_tdiv (m:=m) (n:=n) hval hlt
 have e1:kq = q.length:=by obtain ⟨_,_,_,he,_⟩:=hNq.1; simp only [Value.slice.injEq] at he; exact he.2.1
 have e2:kr = r.length:=by obtain ⟨_,_,_,he,_⟩:=hNr.1; simp only [Value.slice.injEq] at he; exact he.2.1
 have hqa:D.val q≤D.val a:=by
  rw [hval]
  have:=Nat.mul_le_mul_left (D.val q) hb0
  omega
 refine ⟨hk,s,aq,kq,cq,t,ar,kr,cr,rfl,⟨q,hNq.1,hRq,by rw [hiq,hid.1]⟩,⟨r,hNr.1,hRr,by rw [hir,hid.2]⟩,?_,?_⟩
 ·
  rw [e1]; exact D.len_le_of_val_le hRq.tr ha1.bd hqa
 ·
  rw [e2]; exact D.len_le_of_val_le hRr.tr hb1.bd (Nat.le_of_lt hlt)
theorem Common_any (m n:Bool) (aoa aob:Option Addr) (ka kb capa capb:Nat) (x y:Int) (w:World) (ha:NIs w m (.slice aoa ka capa) x) (hb:NIs w n (.slice aob kb capb) y) (hla:ka≤60000) (hlb:kb≤60000) :
  Calls Tryz.prog 119 #[.agg #[.bool m,.slice aoa ka capa],.agg #[.bool n,.slice aob kb capb]] w fun e w' => Kept w w'∧∃ ao k cap,e = .returned (.agg #[.bool false,.slice ao k cap])∧NIs w' false (.slice ao k cap) ((Nat.gcd x.natAbs y.natAbs:Nat):Int)∧k≤max ka kb:=by
 obtain ⟨a,ha1,ha2,rfl,rfl⟩:=ha.len
 obtain ⟨b,hb1,hb2,rfl,rfl⟩:=hb.len
 refine (Common_raw m n aoa aob capa capb a b w ha1 hb1 hla hlb ha2.tr hb2.tr).mono ?_
 rintro e w' ⟨hk,ao,k,cap,l,rfl,hS,ht,hv⟩
 have e1:k = l.length:=by obtain ⟨_,_,_,he,_⟩:=hS; simp only [Value.slice.injEq] at he; exact he.2.1
 refine ⟨hk,ao,k,cap,rfl,⟨l,hS,⟨hS.bd,ht,fun _ => rfl⟩,by rw [natAbs_int,natAbs_int,← hv]; simp [int]⟩,?_⟩
 rw [e1]
 by_cases h0:D.val a = 0
 ·
  rw [h0,Nat.gcd_zero_left] at hv
  have:=D.len_le_of_val_le ht hb1.bd (by omega)
  omega
 ·
  have:=D.len_le_of_val_le ht ha1.bd (by rw [hv]; exact Nat.gcd_le_left _ (by omega))
  omega
end Go.Proofs.YtdcfammglpebaaaGreat.D

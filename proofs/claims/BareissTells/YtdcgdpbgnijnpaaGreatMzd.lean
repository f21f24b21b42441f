/- maps.Values of a map of numbers, gone through by whatever loop. -/
import Derived.Test.YtdcgdpbgnijnpaaGreatGao
import Derived.RangeFuncNested
import Derived.RangeFuncBound
import Derived.RangeFuncCalls
import Derived.RangeFuncLeaves
import Derived.RangeFuncBox
import Derived.Shelf.Abstract
import Derived.OwnWalkIn
import Derived.TacticsInMore
import Derived.LoopNIn
import Derived.LoopIn
import Derived.Sort.LoopGhostIn
import Derived.Maps.AppendAt
namespace Go.Proofs.YtdcgdpbgnijnpaaGreat
open Go.RowKit Go.MapKept Go.Shelf
open Go.ChangeMaps (setBlock)
open V (RowL RowL.alloc RowL.lt RowL.cell RowL.fz RowL.kept)
attribute [local go_sem] Oper.semAt_some
namespace Bp
structure Vals where
 s:Nat→Bool
 ao:Nat→Option Addr
 k:Nat→Nat
 c:Nat→Nat
abbrev Vals.v (V:Vals) (i:Nat):Value:=.agg #[.bool (V.s i),.slice (V.ao i) (V.k i) (V.c i)]
structure EntV (n:Nat) (f:Nat→Int) (V:Vals) (es:Array MapEntry):Prop where
 key:∀ x ∈ es.toList,∃ k:Nat,k < n∧x.key = .int .i64 (k:Int)∧f k ≠ 0∧x.val = V.v k
 all:∀ k,f k ≠ 0→∃ x ∈ es.toList,x.key = .int .i64 (k:Int)
def MapV (w:World) (b n:Nat) (f:Nat→Int) (V:Vals):Prop:=∃ es clock,w.heap[b]? = some (.map es clock)∧Stamped es clock∧EntV n f V es
theorem NumM.vals {B b n:Nat} {w:World} {f:Nat→Int} (h:NumM B w b n f):∃ V:Vals,MapV w b n f V∧∀ k,f k ≠ 0→NV B w (V.v k) (f k):=by
 obtain ⟨h0,es,clock,h1,h2,h3⟩:=h
 have hex:∀ k,∃ q:Bool × Option Addr × Nat × Nat,f k ≠ 0→(∃ x ∈ es.toList,x.key = .int .i64 (k:Int)∧x.val = .agg #[.bool q.1,.slice q.2.1 q.2.2.1 q.2.2.2])∧NV B w (.agg #[.bool q.1,.slice q.2.1 q.2.2.1 q.2.2.2]) (f k):=by
  intro k
  by_cases hk:f k = 0
  ·
   exact ⟨(false,none,0,0),fun h => absurd hk h⟩
  ·
   obtain ⟨x,hx,e⟩:=h3.all k hk
   obtain ⟨j,g1,g2,g3,g4⟩:=h3.key x hx
   rw [e] at g2
   have:k = j:=by
    have:(k:Int) = j:=by injection g2
    omega
   subst this
   have g5:=g4
   obtain ⟨s,ao,kk,c,ev,_⟩:=g5.parts
   rw [ev] at g4
   exact ⟨(s,ao,kk,c),fun _ => ⟨⟨x,hx,e,ev⟩,g4⟩⟩
 refine ⟨⟨fun k => (Classical.choose (hex k)).1,fun k => (Classical.choose (hex k)).2.1,fun k => (Classical.choose (hex k)).2.2.1,fun k => (Classical.choose (hex k)).2.2.2⟩,⟨es,clock,h1,h2,⟨fun x hx => ?_,h3.all⟩⟩,fun k hk => (Classical.choose_spec (hex k) hk).2⟩
 obtain ⟨k,g1,g2,g3,g4⟩:=h3.key x hx
 refine ⟨k,g1,g2,g3,?_⟩
 obtain ⟨y,hy,e,ev⟩:=(Classical.choose_spec (hex k) g3).1
 have hyx:y = x:=by
  have hp:=((stamped_iff es clock).1 h2).2.2
  obtain ⟨i1,l1,e1⟩:=List.getElem_of_mem hy
  obtain ⟨i2,l2,e2⟩:=List.getElem_of_mem hx
  have hp:=List.pairwise_iff_getElem.1 hp
  rcases Nat.lt_trichotomy i1 i2 with hlt | heq | hgt
  ·
   exact absurd (by rw [e1,e2,e,g2]) (hp i1 i2 l1 l2 hlt)
  ·
   subst heq; rw [← e1,← e2]
  ·
   exact absurd (by rw [e1,e2,e,g2]) (hp i2 i1 l2 l1 hgt)
 rw [← hyx]
 exact ev
def RgV (w:World) (r b n:Nat) (f:Nat→Int) (V:Vals) (D:List Nat):Prop :=
 ∃ es clock seen,w.heap[b]? = some (.map es clock)∧w.heap[r]? = some (.mapIter (some b) clock seen clock)∧Stamped es clock∧EntV n f V es∧(∀ x ∈ es.toList,∀ k:Nat,x.key = .int .i64 (k:Int)→(seen.contains x.born = true ↔ k ∈ D))∧D.Nodup∧∀ k ∈ D,f k ≠ 0∧k < n
section
variable {r b n:Nat} {w w':World} {f:Nat→Int} {V:Vals} {D:List Nat}
theorem RgV.walks (h:RgV w r b n f V D) (k:KeepsWalks w w'):RgV w' r b n f V D:=by
 obtain ⟨es,clock,seen,h1,h2,h3⟩:=h
 exact ⟨es,clock,seen,k.same b _ h1 rfl,k.same r _ h2 rfl,h3⟩
theorem RgV.iter (h:RgV w r b n f V D):∃ o:Obj,w.heap[r]? = some o∧o.isWalk = true:=by
 obtain ⟨es,clock,seen,h1,h2,h3⟩:=h
 exact ⟨_,h2,rfl⟩
theorem RgV.len (h:RgV w r b n f V D):D.length≤n:=by
 obtain ⟨es,clock,seen,_,_,_,_,_,h1,h2⟩:=h
 have hd:D.Nodup∧∀ k ∈ D,k < n:=⟨h1,fun k hk => (h2 k hk).2⟩
 have hp:(D ++ (List.range n).filter fun a => !D.contains a).Perm (List.range n):=by
  rw [List.perm_ext_iff_of_nodup ?_ List.nodup_range]
  ·
   intro a
   rw [List.mem_append,List.mem_filter,List.mem_range]
   constructor
   ·
    rintro (h | h)
    ·
     exact hd.2 a h
    ·
     exact h.1
   ·
    intro h
    by_cases hm:a ∈ D
    ·
     exact .inl hm
    ·
     exact .inr ⟨h,by simp [hm]⟩
  ·
   refine List.nodup_append.2 ⟨hd.1,List.nodup_range.filter _,fun a ha b hb e => ?_⟩
   subst e
   have:=(List.mem_filter.1 hb).2
   simp [ha] at this
 have:=hp.length_eq
 rw [List.length_append,List.length_range] at this
 omega
theorem rangeV (h:MapV w b n f V):∃ o,(Instr.range 85 (.map (some b))).run Tryz.prog w = .ok (.pointer (some ⟨w.heap.size,0,none⟩)) (w.alloc o)∧RgV (w.alloc o) w.heap.size b n f V []:=by
 obtain ⟨es,clock,h1,h2,h3⟩:=h
 have hlt:b < w.heap.size:=(Array.getElem?_eq_some_iff.1 h1).1
 exact ⟨_,run_range_map w _ _ _ b es clock und_n h1,es,clock,#[],by rw [heap_alloc_old w _ hlt]; exact h1,heap_alloc_new w _,h2,h3,fun x _ k _ => by simp,List.nodup_nil,fun k hk => by cases hk⟩
theorem nextV (h:RgV w r b n f V D):(Done f D∧∀ ty,(Instr.next (.pointer (some ⟨r,0,none⟩)) false ty).run Tryz.prog w = .ok (.tuple #[.bool false]) w) ∨
  ∃ (k:Nat) (w':World),k ∉ D∧f k ≠ 0∧k < n∧RgV w' r b n f V (k :: D)∧w.grownBy w' (some r) ∧
   (∀ ty,(Instr.next (.pointer (some ⟨r,0,none⟩)) false ty).run Tryz.prog w = .ok (.tuple #[.bool true,.int .i64 (k:Int),V.v k]) w')∧(Instr.entry (.pointer (some ⟨r,0,none⟩))).run Tryz.prog w' = .ok (.tuple #[.int .i64 (k:Int),V.v k]) w':=by
 obtain ⟨es,clock,seen,h1,h2,h3,h4,h5,h6,h7⟩:=h
 rcases run_next_at (P:=Tryz.prog) w 0 r b clock clock seen es clock h2 h1 h3.1 (Nat.le_refl _) with ⟨e0,hrun⟩ | ⟨x,hx,w1,hw1,hrun⟩
 ·
  left
  have hall:=all_seen es seen e0
  refine ⟨fun k hk => ?_,fun ty => hrun⟩
  obtain ⟨x,hx,e⟩:=h4.all k hk
  exact (h5 x hx k e).1 (hall x hx)
 ·
  right
  obtain ⟨hx1,hx2⟩:=mem_left hx
  obtain ⟨k,hk,e,hfk,hv⟩:=h4.key x hx1
  have hkx:w.grownBy (setBlock w1 r (.mapIter (some b) clock (seen.push x.born) clock)) (some r):=by
   have hk1:=kx_setBlock (w:=w1) (b:=r) (.mapIter (some b) clock (seen.push x.born) clock)
   have:KX (fun i => i = r) w (setBlock w1 r (.mapIter (some b) clock (seen.push x.born) clock)):=by
    rcases hw1 with rfl | rfl
    ·
     exact hk1.1
    ·
     exact (KX.of (Kept.refl w).drew).trans hk1.1
   exact ⟨this.os,this.tape,this.output,this.size,fun j hj hne => this.block j hj (fun e => hne (by rw [e]))⟩
  have hrlt:r < w.heap.size:=(Array.getElem?_eq_some_iff.1 h2).1
  have hnot:k ∉ D:=fun hm => by
   have:=(h5 x hx1 k e).2 hm
   rw [hx2] at this; cases this
  have hne:b ≠ r:=by
   intro e'
   subst e'
   rw [h1] at h2; cases h2
  have hb':(setBlock w1 r (.mapIter (some b) clock (seen.push x.born) clock)).heap[b]? = some (.map es clock):=(hkx.block b (Array.getElem?_eq_some_iff.1 h1).1 (fun e => hne (by injection e))).trans h1
  have hr':(setBlock w1 r (.mapIter (some b) clock (seen.push x.born) clock)).heap[r]? = some (.mapIter (some b) clock (seen.push x.born) clock):=by
   show (w1.heap.setIfInBounds r _)[r]? = _
   have:r < w1.heap.size:=by rcases hw1 with rfl | rfl <;> exact hrlt
   simp [this]
  have hen:=run_entry_at (P:=Tryz.prog) (setBlock w1 r (.mapIter (some b) clock (seen.push x.born) clock)) r b clock seen es clock x hr' hb' hx1 h3.2.1
  rw [e,hv] at hen hrun
  refine ⟨k,setBlock w1 r (.mapIter (some b) clock (seen.push x.born) clock),hnot,hfk,hk,⟨es,clock,seen.push x.born,hb',hr',h3,h4,fun y hy j ej => ?_,List.nodup_cons.2 ⟨hnot,h6⟩,fun j hj => ?_⟩,hkx,fun ty => hrun,hen⟩
  ·
   rw [contains_push,Bool.or_eq_true,h5 y hy j ej,List.mem_cons]
   constructor
   ·
    rintro (h | h)
    ·
     exact .inr h
    ·
     left
     have hyx:y = x:=born_inj h3.2.1 hy hx1 (by simpa using h)
     subst hyx
     rw [e] at ej
     have:(k:Int) = j:=by injection ej
     omega
   ·
    rintro (rfl | h)
    ·
     right
     have hyx:y.key = x.key:=by rw [ej,e]
     have:=(stamped_iff es clock).1 h3
     have hyx:y = x:=by
      have hp:=List.pairwise_iff_getElem.1 this.2.2
      obtain ⟨i1,l1,e1⟩:=List.getElem_of_mem hy
      obtain ⟨i2,l2,e2⟩:=List.getElem_of_mem hx1
      rcases Nat.lt_trichotomy i1 i2 with hlt | heq | hgt
      ·
       exact absurd (by rw [e1,e2]; exact hyx) (hp i1 i2 l1 l2 hlt)
      ·
       subst heq; rw [← e1,← e2]
      ·
       exact absurd (by rw [e1,e2]; exact hyx.symm) (hp i2 i1 l2 l1 hgt)
     rw [hyx]; simp
    ·
     exact .inl h
  ·
   rcases List.mem_cons.1 hj with rfl | hj
   ·
    exact ⟨hfk,hk⟩
   ·
    exact h7 j hj
end
set_option maxRecDepth 100000 in
set_option maxHeartbeats 2000000 in
theorem vals1_in (m:Nat) (hn:1≤m) (l Bm b n:Nat) (f:Nat→Int) (V:Vals) (J Jx:List Nat→World→Prop)
  (hY:∀ pre x W,J pre W→pre.length < n→YieldAt Fence.wide (m - 1) Tryz.prog l #[V.v x] W fun e W' => (e = .returned (.bool true)∧J (pre ++ [x]) W'∧KeepsWalks W W') ∨ (e = .returned (.bool false)∧Jx (pre ++ [x]) W'))
  (W:World) (hJ:AbidesFrom W.heap.size J) (hm:W.cell? ⟨Bm,0,none⟩ = some (.map (some b))) (hM:MapV W b n f V) (h0:J [] W) :
  CallsIn Fence.wide m Tryz.prog 98 #[.func (.yield l) #[] #[],.pointer (some ⟨Bm,0,none⟩)] W fun e W' => (∃ v,e = .returned v) ∧
   ((∃ ks:List Nat,(ks.Nodup∧ks.length≤n∧∀ k,k ∈ ks ↔ f k ≠ 0)∧J ks W') ∨ (∃ pre:List Nat,True∧Jx pre W')):=by
 obtain ⟨o,hrun,hR⟩:=rangeV hM
 have hJ1:J [] (W.alloc o):=hJ [] W _ none h0 (World.grownBy_alloc W o none) (fun r e => by cases e)
 refine callsIn_of_wp Tryz.func98 rfl trivial ?_ rfl
 simp only [Tryz.ntmps98,List.size_toArray,List.length_cons,List.length_nil,Nat.reduceAdd,Nat.reduceSub,Array.replicate_succ,Array.replicate_zero,List.push_toArray,List.append_toArray,List.nil_append,List.cons_append]
 --%A
 gi_wp2
 obtain ⟨r,hr⟩:∃ r,r = W.heap.size:=⟨_,rfl⟩
 rw [← hr] at hR hJ ⊢
 clear hrun h0 hr hm hM
 generalize W.alloc o = W1 at hR hJ1 ⊢
 --%B
 gi_loopg [7] n (fun gg _ wr => ∃ D:List Nat,Hid (RgV wr r b n f V D.reverse∧J D wr∧n - D.length≤gg))
 case atStart => exact ⟨[],hR,hJ1,by simp⟩
 case round =>
  obtain ⟨D,H⟩:=hrel
  rcases nextV H.out.1 with ⟨hD,hnx⟩ | ⟨k,w1,g1,g2,g3,g4,g5,hnx,hen⟩
  ·
   have hnx:=hnx 0
   have HD:=Sp.hid hD
   clear hD
   --%C
   gi_wp2
   go_end0
   refine ⟨⟨_,rfl⟩,.inl ⟨D,⟨?_,?_,fun k => ⟨fun hk => ?_,fun hk => ?_⟩⟩,H.out.2.1⟩⟩
   ·
    obtain ⟨es,clock,seen,_,_,_,_,_,h6,_⟩:=H.out.1
    exact (List.reverse_perm D).nodup_iff.1 h6
   ·
    have:=H.out.1.len
    simpa using this
   ·
    obtain ⟨es,clock,seen,_,_,_,_,_,_,h7⟩:=H.out.1
    exact (h7 k (by simpa using hk)).1
   ·
    have:=HD.out k hk
    simpa using this
  ·
   have hnx:=hnx 0
   have hJ2:J D w1:=hJ D wr w1 (some r) H.out.2.1 g5 (fun q e => by cases e; exact ⟨Nat.le_refl _,H.out.1.iter⟩)
   have hlen:=g4.len
   have HG:=Sp.hid (And.intro g1 (And.intro g2 (And.intro g3 (And.intro g4 hlen))))
   have hJ3:=hJ D w1 (w1.alloc (.cells #[.bool (V.s k),.slice (V.ao k) (V.k k) (V.c k)] 37)) none hJ2 (World.grownBy_alloc _ _ _) (fun q e => by cases e)
   have hdl:D.length < n:=by simp at hlen; omega
   obtain ⟨fn,tmps,assign,body,hy,hY2⟩:=hY D k _ hJ3 hdl
   have rA:=RowL.alloc 37 w1 [.bool (V.s k),.slice (V.ao k) (V.k k) (V.c k)]
   have hk2:KeepsWalks w1 (w1.alloc (.cells #[.bool (V.s k),.slice (V.ao k) (V.k k) (V.c k)] 37)):=KeepsWalks.alloc _ _
   have d0:=rA.cell 0 _
   have d1:=rA.cell 1 _
   have HK2:=Sp.hid hk2
   clear g1 g2 g3 g4 g5 hlen hJ2 hJ3 rA hk2 hdl
   --%D
   gi_wp2
   refine hY2.mono ?_
   rintro e W3 (⟨rfl,hJ3,hk3⟩ | ⟨rfl,hJx3⟩)
   ·
    have H3:=Sp.hid (And.intro (HG.out.2.2.2.1.walks (HK2.out.trans hk3)) hJ3)
    clear hJ3 hk3
    gi_wp2
    gi_roundg (n - (D.length + 1))
    case measure => have h1:=HG.out.2.2.2.2; simp at h1; have:=H.out.2.2; omega
    case rel => exact ⟨D ++ [k],by rw [List.reverse_append]; exact H3.out.1,H3.out.2,by simp⟩
   ·
    gi_wp2
    refine bodyPost_ret (results_none rfl _ _ _) rfl ?_
    exact ⟨⟨_,rfl⟩,.inr ⟨D ++ [k],trivial,hJx3⟩⟩
end Bp
end Go.Proofs.YtdcgdpbgnijnpaaGreat

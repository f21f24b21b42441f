/- Maps of whole numbers in memory: what has turned (KX), NV, NumM; look-up, store, delete. Maps of whole numbers gone through: RowM, RgO; range, next, entry. A table in memory: TabR. -/
import Derived.Test.YtdcgdpbgnijnpaaGreatGan
import Derived.MapKept
import Derived.Maps.RangeWalk
import Derived.Maps.OwnOps
import Derived.Maps.OwnSet
import Derived.ChangeMaps5
import Derived.Deep.LoopGhost
namespace Go.Proofs.YtdcgdpbgnijnpaaGreat
open Go.RowKit Go.MapKept
open Go.ChangeMaps (setBlock)
namespace Bp
structure KX (T:Nat→Prop) (w w':World):Prop where
 os:w'.os = w.os
 tape:w'.tape = w.tape
 output:w'.output = w.output
 size:w.heap.size≤w'.heap.size
 block:∀ k,k < w.heap.size→¬ T k→w'.heap[k]? = w.heap[k]?
section
variable {T T':Nat→Prop} {a b c w w':World}
theorem KX.of (h:Kept w w'):KX T w w':=⟨h.os,h.tape,h.output,h.size,fun k hk _ => h.block k hk⟩
theorem KX.refl (w:World):KX T w w:=KX.of (Kept.refl w)
theorem KX.trans (h:KX T a b) (k:KX T b c):KX T a c :=
 ⟨k.os.trans h.os,k.tape.trans h.tape,k.output.trans h.output,Nat.le_trans h.size k.size,fun i hi hn => (k.block i (Nat.lt_of_lt_of_le hi h.size) hn).trans (h.block i hi hn)⟩
theorem KX.then (h:KX T a b) (k:KX T' b c) (hT:∀ i,T' i→T i ∨ a.heap.size≤i):KX T a c :=
 ⟨k.os.trans h.os,k.tape.trans h.tape,k.output.trans h.output,Nat.le_trans h.size k.size,fun i hi hn => (k.block i (Nat.lt_of_lt_of_le hi h.size) (fun h' => by rcases hT i h' with h1 | h1; exact hn h1; omega)).trans (h.block i hi hn)⟩
theorem KX.mono (h:KX T a b) (hT:∀ i,T i→T' i):KX T' a b:=⟨h.os,h.tape,h.output,h.size,fun i hi hn => h.block i hi fun h' => hn (hT i h')⟩
theorem KX.kept {w0:World} (h0:Kept w0 w) (h:KX T w w') (hT:∀ k,T k→w0.heap.size≤k):Kept w0 w' :=
 ⟨h.os.trans h0.os,h.tape.trans h0.tape,h.output.trans h0.output,Nat.le_trans h0.size h.size,fun k hk => (h.block k (Nat.lt_of_lt_of_le hk h0.size) (fun h' => by have:=hT k h'; omega)).trans (h0.block k hk)⟩
theorem KX.grown {row:Option Nat} (g:w.grownBy w' row):KX (fun k => some k = row) w w':=⟨g.os,g.tape,g.output,g.size,fun k hk hn => g.block k hk hn⟩
theorem KX.alloc (h:KX T a b) (o:Obj):KX T a (b.alloc o):=h.trans (KX.of ((Kept.refl b).alloc o))
theorem KX.drew (h:KX T a b):KX T a b.drew:=h.trans (KX.of (Kept.refl b).drew)
theorem KX.setCell (h:KX T a b) {p:Addr} (hp:T p.block ∨ a.heap.size≤p.block) (u:Value):KX T a (b.setCell p u) :=
 h.then (T':=fun k => k = p.block) ⟨rfl,rfl,rfl,by simp [World.setCell],fun k _ hn => Below.heap_setCell _ _ _ _ hn⟩ (fun i hi => by subst hi; exact hp)
theorem KX.none (h:KX T a b) (hT:∀ i,T i→a.heap.size≤i):Kept a b:=KX.kept (Kept.refl a) h hT
end
def Free (t:TypeId) (T:Nat→Prop) (w:World):Prop:=∀ k,T k→∀ cur fr,w.heap[k]? ≠ some (.cells cur t fr)
theorem rowIs_kx {w w':World} {T:Nat→Prop} {b:Nat} {t:TypeId} {n:Nat} {f:Nat→Value} (h:w.rowIs b t n f) (k:KX T w w') (hT:Free t T w):w'.rowIs b t n f:=by
 have hlt:=h.lt
 obtain ⟨c,hb,hn,hc⟩:=h
 exact ⟨c,(k.block b hlt fun h' => hT b h' _ _ hb).trans hb,hn,hc⟩
def NV (B:Nat) (w:World) (v:Value) (z:Int):Prop:=∃ (s:Bool) (u:Value) (l:List Nat),v = .agg #[.bool s,u]∧New B w u l∧M.Right s l∧M.int s l = z
section
variable {T:Nat→Prop} {B:Nat} {w w':World} {v:Value} {z:Int}
theorem New_kx {u:Value} {l:List Nat} (h:New B w u l) (k:KX T w w') (hT:Free 40 T w):New B w' u l:=by
 obtain ⟨h1,h2 | ⟨b,N,f,rfl,h3,h4,h5,h6⟩⟩:=h
 ·
  exact ⟨h1,.inl h2⟩
 ·
  exact ⟨h1,.inr ⟨b,N,f,rfl,h3,h4,rowIs_kx h5 k hT,h6⟩⟩
theorem NV.kx (h:NV B w v z) (k:KX T w w') (hT:Free 40 T w):NV B w' v z:=by
 obtain ⟨s,u,l,rfl,h1,h2⟩:=h
 exact ⟨s,u,l,rfl,New_kx h1 k hT,h2⟩
theorem NV.kept (h:NV B w v z) (k:Kept w w'):NV B w' v z:=NV.kx (T:=fun _ => False) h (KX.of k) (fun _ h => h.elim)
theorem NV.mono {B':Nat} (h:NV B w v z) (hB:B'≤B):NV B' w v z:=by
 obtain ⟨s,u,l,rfl,⟨h1,h2 | ⟨b,N,f,rfl,h3,h4,h5,h6⟩⟩,h7⟩:=h
 ·
  exact ⟨s,u,l,rfl,⟨h1,.inl h2⟩,h7⟩
 ·
  exact ⟨s,_,l,rfl,⟨h1,.inr ⟨b,N,f,rfl,by omega,h4,h5,h6⟩⟩,h7⟩
theorem NV.nought (B:Nat) (w:World):NV B w (.agg #[.bool false,.slice none 0 0]) 0 :=
 ⟨false,_,[],rfl,⟨(fun _ h => by cases h),.inl ⟨rfl,rfl⟩⟩,⟨fun _ h => (by cases h),.inl rfl,by decide,fun _ => rfl⟩,rfl⟩
theorem NV.parts (h:NV B w v z):∃ (s:Bool) (ao:Option Addr) (k cap:Nat),v = .agg #[.bool s,.slice ao k cap]∧Bm.ZI w s (.slice ao k cap) z∧(k = 0 ↔ z = 0):=by
 obtain ⟨s,u,l,rfl,h1,h2,h3⟩:=h
 have h0:(l.length = 0 ↔ z = 0):=by
  constructor
  ·
   intro e
   have:l = []:=List.eq_nil_of_length_eq_zero e
   subst this
   rw [← h3]
   cases s <;> rfl
  ·
   intro e
   rcases Nat.eq_zero_or_pos l.length with e1 | e1
   ·
    exact e1
   ·
    exfalso
    have h4:=M.natAbs_int s l
    rw [h3,e] at h4
    rcases h2.tr with h5 | h5
    ·
     omega
    ·
     have h6:=M.val_ge h2.tr (fun e' => by rw [e'] at e1; simp at e1)
     rw [← h4] at h6
     have h7:0 < 4294967296 ^ (l.length - 1):=Nat.pow_pos (by decide)
     omega
 have hs:=h1.sl
 obtain ⟨b1,ao,cap,rfl,b2⟩:=hs
 exact ⟨s,ao,l.length,cap,rfl,⟨l,⟨b1,ao,cap,rfl,b2⟩,h2,h3⟩,h0⟩
end
structure Ents (B:Nat) (w:World) (n:Nat) (f:Nat→Int) (es:Array MapEntry):Prop where
 key:∀ x ∈ es.toList,∃ k:Nat,k < n∧x.key = .int .i64 (k:Int)∧f k ≠ 0∧NV B w x.val (f k)
 all:∀ k,f k ≠ 0→∃ x ∈ es.toList,x.key = .int .i64 (k:Int)
def NumM (B:Nat) (w:World) (b n:Nat) (f:Nat→Int):Prop:=B≤b∧∃ es clock,w.heap[b]? = some (.map es clock)∧Stamped es clock∧Ents B w n f es
section
variable {T:Nat→Prop} {B b n:Nat} {w w':World} {f:Nat→Int}
theorem Ents.kx {es:Array MapEntry} (h:Ents B w n f es) (k:KX T w w') (hT:Free 40 T w):Ents B w' n f es :=
 ⟨fun x hx => by obtain ⟨c,h1,h2,h3,h4⟩:=h.key x hx; exact ⟨c,h1,h2,h3,h4.kx k hT⟩,h.all⟩
theorem NumM.kx (h:NumM B w b n f) (k:KX T w w') (hT:Free 40 T w) (hb:¬ T b):NumM B w' b n f:=by
 obtain ⟨h0,es,clock,h1,h2,h3⟩:=h
 exact ⟨h0,es,clock,(k.block b (Array.getElem?_eq_some_iff.1 h1).1 hb).trans h1,h2,h3.kx k hT⟩
theorem NumM.kept (h:NumM B w b n f) (k:Kept w w'):NumM B w' b n f:=h.kx (T:=fun _ => False) (KX.of k) (fun _ h => h.elim) (fun h => h)
theorem NumM.lt (h:NumM B w b n f):b < w.heap.size:=by
 obtain ⟨h0,es,clock,h1,_⟩:=h
 exact (Array.getElem?_eq_some_iff.1 h1).1
theorem NumM.congr {g:Nat→Int} (h:NumM B w b n f) (e:∀ k,f k = g k):NumM B w b n g:=by
 have:f = g:=funext e
 rw [← this]; exact h
theorem NumM.lt_n (h:NumM B w b n f) {k:Nat} (hk:f k ≠ 0):k < n:=by
 obtain ⟨h0,es,clock,h1,h2,h3⟩:=h
 obtain ⟨x,hx,e⟩:=h3.all k hk
 obtain ⟨j,h4,h5,_⟩:=h3.key x hx
 rw [e] at h5
 have:(k:Int) = j:=by injection h5
 omega
theorem NumM.made (B:Nat) (w:World) (n:Nat) (hB:B≤w.heap.size):NumM B (w.alloc (.map #[] 0)) w.heap.size n (fun _ => 0) :=
 ⟨hB,#[],0,by show (w.heap.push _)[w.heap.size]? = _; simp,stamped_empty 0,⟨fun x hx => (by simp at hx),fun k hk => absurd rfl hk⟩⟩
theorem NumM.free (h:NumM B w b n f) (t:TypeId):Free t (fun k => k = b) w:=by
 obtain ⟨h0,es,clock,h1,_⟩:=h
 intro k hk cur fr e
 subst hk
 rw [h1] at e
 cases e
theorem keyK (k:Nat):IsKey (.int .i64) (.int .i64 (k:Int)):=rfl
theorem Ents.isK {es:Array MapEntry} (h:Ents B w n f es):∀ x ∈ es.toList,IsKey (.int .i64) x.key:=fun x hx => by
 obtain ⟨k,_,e,_⟩:=h.key x hx
 rw [e]; exact keyK k
end
theorem und_n:Tryz.prog.underlying 85 = some (.map 3 37):=by kernel_rfl
theorem und_k:Tryz.prog.underlying 3 = some (.int .i64):=by kernel_rfl
section
variable {B b n:Nat} {w:World} {f:Nat→Int}
theorem Ents.at {es:Array MapEntry} (h:Ents B w n f es) (k:Nat):(Instr.findNow (.int .i64) (.int .i64 (k:Int)) es.toList 0 = some none∧f k = 0∧∀ x ∈ es.toList,x.key ≠ .int .i64 (k:Int)) ∨ ∃ j x,Instr.findNow (.int .i64) (.int .i64 (k:Int)) es.toList 0 = some (some (j,x.val))∧es.toList[j]? = some x∧x.key = .int .i64 (k:Int)∧k < n∧f k ≠ 0∧NV B w x.val (f k):=by
 rcases findNow_spec (keyK k) es.toList 0 h.isK with ⟨h1,h2⟩ | ⟨j,x,h1,h2,h3⟩
 ·
  refine .inl ⟨h1,?_,h2⟩
  rcases Int.lt_trichotomy (f k) 0 with h' | h' | h'
  ·
   obtain ⟨x,hx,e⟩:=h.all k (by omega)
   exact absurd e (h2 x hx)
  ·
   exact h'
  ·
   obtain ⟨x,hx,e⟩:=h.all k (by omega)
   exact absurd e (h2 x hx)
 ·
  rw [Nat.zero_add] at h1
  refine .inr ⟨j,x,h1,h2,h3,?_⟩
  obtain ⟨i,h4,h5,h6,h7⟩:=h.key x (List.mem_of_getElem? h2)
  rw [h3] at h5
  have e:k = i:=by
   have:(k:Int) = i:=by injection h5
   omega
  subst e
  exact ⟨h4,h6,h7⟩
theorem NumM.look (h:NumM B w b n f) (k:Nat):∃ v,NV B w v (f k)∧(Instr.lookup 85 (.map (some b)) (.int .i64 (k:Int)) false).run Tryz.prog w = .ok v w∧(Instr.lookup 85 (.map (some b)) (.int .i64 (k:Int)) true).run Tryz.prog w = .ok (.tuple #[v,.bool (decide (f k ≠ 0))]) w:=by
 obtain ⟨h0,es,clock,h1,h2,h3⟩:=h
 rcases h3.at k with ⟨h4,h5,h6⟩ | ⟨j,x,h4,h5,h6,h7,h8,h9⟩
 ·
  refine ⟨.agg #[.bool false,.slice none 0 0],by rw [h5]; exact NV.nought B w,?_,?_⟩
  ·
   simp [Instr.lookup,run_underlying und_n,MapKept.run_getObj_map h1,run_checkKey und_k (keyK k),run_findKey und_k h4,Result.andThen]
  ·
   simp [Instr.lookup,run_underlying und_n,MapKept.run_getObj_map h1,run_checkKey und_k (keyK k),run_findKey und_k h4,Result.andThen,h5]
 ·
  refine ⟨x.val,h9,?_,?_⟩
  ·
   simp [Instr.lookup,run_underlying und_n,MapKept.run_getObj_map h1,run_checkKey und_k (keyK k),run_findKey und_k h4,Result.andThen]
  ·
   simp [Instr.lookup,run_underlying und_n,MapKept.run_getObj_map h1,run_checkKey und_k (keyK k),run_findKey und_k h4,Result.andThen,h8]
theorem look_nil (w:World) (k:Nat):(Instr.lookup 85 (.map none) (.int .i64 (k:Int)) false).run Tryz.prog w = .ok (.agg #[.bool false,.slice none 0 0]) w:=by
 simp [Instr.lookup,run_underlying und_n,run_checkKey und_k (keyK k),Instr.findKey,Instr.findNow,run_underlying und_k,Result.andThen]
def upd (f:Nat→Int) (k:Nat) (z:Int):Nat→Int:=fun j => if j = k then z else f j
theorem kx_setBlock {w:World} {b:Nat} (o:Obj):KX (fun k => k = b) w (setBlock w b o)∧(setBlock w b o).heap.size = w.heap.size :=
 ⟨⟨rfl,rfl,rfl,by simp [setBlock],fun k _ hn => by
  show (w.heap.setIfInBounds b o)[k]? = _
  simp [Ne.symm hn]⟩,by simp [setBlock]⟩
theorem NumM.store (h:NumM B w b n f) {k:Nat} {v:Value} {z:Int} (hk:k < n) (hz:z ≠ 0) (hv:NV B w v z):∃ w',(Instr.mapUpdate 85 (.map (some b)) (.int .i64 (k:Int)) v).run Tryz.prog w = .ok () w'∧NumM B w' b n (upd f k z)∧KX (fun k => k = b) w w'∧w'.heap.size = w.heap.size:=by
 have hF:=h.free 40
 obtain ⟨h0,es,clock,h1,h2,h3⟩:=h
 rcases h3.at k with ⟨h4,h5,h6⟩ | ⟨j,x,h4,h5,h6,h7,h8,h9⟩
 ·
  refine ⟨setBlock w b (.map (es.push { key:=.int .i64 (k:Int),val:=v,born:=clock }) (clock + 1)),?_,?_,(kx_setBlock _)⟩
  ·
   simp [Instr.mapUpdate,run_underlying und_n,MapKept.run_getObj_map h1,run_checkKey und_k (keyK k),run_findKey und_k h4,MapKept.run_setObj_map _ h1,Result.andThen,setBlock]
  ·
   have hx:=(kx_setBlock (w:=w) (b:=b) (.map (es.push { key:=.int .i64 (k:Int),val:=v,born:=clock }) (clock + 1))).1
   refine ⟨h0,_,_,(heap_set h1).1,stamped_push h2 h6,⟨fun y hy => ?_,fun i hi => ?_⟩⟩
   ·
    simp only [Array.toList_push,List.mem_append,List.mem_singleton] at hy
    rcases hy with hy | rfl
    ·
     obtain ⟨i,g1,g2,g3,g4⟩:=h3.key y hy
     have hne:i ≠ k:=fun e => g3 (by rw [e]; exact h5)
     exact ⟨i,g1,g2,by unfold upd; rw [if_neg hne]; exact g3,by unfold upd; rw [if_neg hne]; exact g4.kx hx hF⟩
    ·
     exact ⟨k,hk,rfl,by unfold upd; rw [if_pos rfl]; exact hz,by unfold upd; rw [if_pos rfl]; exact hv.kx hx hF⟩
   ·
    unfold upd at hi
    split at hi
    ·
     next e => subst e; exact ⟨{ key:=.int .i64 (i:Int),val:=v,born:=clock },by simp,rfl⟩
    ·
     obtain ⟨y,hy,e⟩:=h3.all i hi
     exact ⟨y,by simp only [Array.toList_push,List.mem_append]; exact .inl hy,e⟩
 ·
  have hj:es[j]? = some x:=by simpa using h5
  refine ⟨setBlock w b (.map (es.modify j fun e => { e with key:=.int .i64 (k:Int),val:=v }) clock),?_,?_,(kx_setBlock _)⟩
  ·
   simp [Instr.mapUpdate,run_underlying und_n,MapKept.run_getObj_map h1,run_checkKey und_k (keyK k),run_findKey und_k h4,hj,h6,run_keyThatStays (keyK k),MapKept.run_setObj_map _ h1,Result.andThen,setBlock]
  ·
   have hx:=(kx_setBlock (w:=w) (b:=b) (.map (es.modify j fun e => { e with key:=.int .i64 (k:Int),val:=v }) clock)).1
   have hkey:∀ e',es[j]? = some e'→({ e' with key:=.int .i64 (k:Int),val:=v }:MapEntry).key = e'.key:=fun e' he' => by rw [hj] at he'; cases he'; exact h6.symm
   have hmem:∀ y,y ∈ (es.modify j fun e => { e with key:=.int .i64 (k:Int),val:=v }).toList→(y ∈ es.toList∧y.key ≠ .int .i64 (k:Int)) ∨ (y.key = .int .i64 (k:Int)∧y.val = v):=by
    intro y hy
    obtain ⟨i,hi⟩:=List.getElem?_of_mem hy
    rw [Array.getElem?_toList,Array.getElem?_modify] at hi
    split at hi
    ·
     next e =>
     subst e
     rw [hj] at hi
     cases hi
     exact .inr ⟨rfl,rfl⟩
    ·
     next e =>
     left
     refine ⟨by rw [← Array.getElem?_toList] at hi; exact List.mem_of_getElem? hi,fun e' => e ?_⟩
     have hn:=h2.2.2
     rw [← Array.getElem?_toList] at hi
     have a1:(es.toList.map (·.key))[i]? = some (.int .i64 (k:Int)):=by rw [List.getElem?_map,hi]; simp [e']
     have a2:(es.toList.map (·.key))[j]? = some (.int .i64 (k:Int)):=by rw [List.getElem?_map,h5]; simp [h6]
     have l1:i < (es.toList.map (·.key)).length:=(List.getElem?_eq_some_iff.1 a1).1
     exact ((List.getElem?_inj l1 hn).1 (a1.trans a2.symm)).symm
   refine ⟨h0,_,_,(heap_set h1).1,stamped_modify h2 _ _ (fun _ _ => rfl) (fun e' _ he' => hkey e' he'),⟨fun y hy => ?_,fun i hi => ?_⟩⟩
   ·
    rcases hmem y hy with ⟨hy1,hy2⟩ | ⟨e1,e2⟩
    ·
     obtain ⟨i,g1,g2,g3,g4⟩:=h3.key y hy1
     have hne:i ≠ k:=fun e => hy2 (by rw [g2,e])
     exact ⟨i,g1,g2,by unfold upd; rw [if_neg hne]; exact g3,by unfold upd; rw [if_neg hne]; exact g4.kx hx hF⟩
    ·
     refine ⟨k,hk,e1,by unfold upd; rw [if_pos rfl]; exact hz,by unfold upd; rw [if_pos rfl,e2]; exact hv.kx hx hF⟩
   ·
    have hk2:=modify_keys j (fun e => { e with key:=.int .i64 (k:Int),val:=v }) hkey
    have hin:∃ y ∈ es.toList,y.key = .int .i64 (i:Int):=by
     unfold upd at hi
     split at hi
     ·
      next e => subst e; exact ⟨x,List.mem_of_getElem? h5,h6⟩
     ·
      exact h3.all i hi
    obtain ⟨y,hy,e⟩:=hin
    have:(.int .i64 (i:Int):Value) ∈ (es.modify j fun e => { e with key:=.int .i64 (k:Int),val:=v }).toList.map (·.key):=by rw [hk2]; exact List.mem_map.2 ⟨y,hy,e⟩
    obtain ⟨y',hy',e'⟩:=List.mem_map.1 this
    exact ⟨y',hy',e'⟩
theorem NumM.drop (h:NumM B w b n f) (k:Nat) (ty:TypeId):∃ w',(Builtin.delete_ #[85,3] ty #[.map (some b),.int .i64 (k:Int)]).run Tryz.prog w = .ok (.tuple #[]) w'∧NumM B w' b n (upd f k 0)∧KX (fun k => k = b) w w'∧w'.heap.size = w.heap.size:=by
 have hF:=h.free 40
 obtain ⟨h0,es,clock,h1,h2,h3⟩:=h
 rcases h3.at k with ⟨h4,h5,h6⟩ | ⟨j,x,h4,h5,h6,h7,h8,h9⟩
 ·
  refine ⟨setBlock w b (.map es clock),?_,?_,(kx_setBlock _)⟩
  ·
   simp [Builtin.delete_,run_underlying und_n,MapKept.run_getObj_map h1,run_checkKey und_k (keyK k),run_findKey und_k h4,MapKept.run_setObj_map _ h1,Result.andThen,setBlock]
  ·
   have hx:=(kx_setBlock (w:=w) (b:=b) (.map es clock)).1
   have e:upd f k 0 = f:=funext fun i => by unfold upd; split; (next e => rw [e,h5]); rfl
   rw [e]
   exact ⟨h0,_,_,(heap_set h1).1,h2,h3.kx hx hF⟩
 ·
  have hj:es[j]? = some x:=by simpa using h5
  refine ⟨setBlock w b (.map (es.eraseIdxIfInBounds j) clock),?_,?_,(kx_setBlock _)⟩
  ·
   simp [Builtin.delete_,run_underlying und_n,MapKept.run_getObj_map h1,run_checkKey und_k (keyK k),run_findKey und_k h4,MapKept.run_setObj_map _ h1,Result.andThen,setBlock]
  ·
   have hx:=(kx_setBlock (w:=w) (b:=b) (.map (es.eraseIdxIfInBounds j) clock)).1
   have hl:(es.eraseIdxIfInBounds j).toList = es.toList.eraseIdx j:=by simp
   have hjl:j < es.toList.length:=(List.getElem?_eq_some_iff.1 h5).1
   have hn:=h2.2.2
   have hmem:∀ y,y ∈ es.toList.eraseIdx j ↔ y ∈ es.toList∧y.key ≠ .int .i64 (k:Int):=by
    intro y
    rw [List.mem_eraseIdx_iff_getElem?]
    constructor
    ·
     rintro ⟨i,hij,hi⟩
     refine ⟨List.mem_of_getElem? hi,fun e' => hij ?_⟩
     have a1:(es.toList.map (·.key))[i]? = some (.int .i64 (k:Int)):=by rw [List.getElem?_map,hi]; simp [e']
     have a2:(es.toList.map (·.key))[j]? = some (.int .i64 (k:Int)):=by rw [List.getElem?_map,h5]; simp [h6]
     have l1:i < (es.toList.map (·.key)).length:=(List.getElem?_eq_some_iff.1 a1).1
     exact (List.getElem?_inj l1 hn).1 (a1.trans a2.symm)
    ·
     rintro ⟨hy,hne⟩
     obtain ⟨i,hi⟩:=List.getElem?_of_mem hy
     exact ⟨i,fun e => hne (by subst e; rw [h5] at hi; cases hi; exact h6),hi⟩
   refine ⟨h0,_,_,(heap_set h1).1,stamped_erase h2 j,⟨fun y hy => ?_,fun i hi => ?_⟩⟩
   ·
    rw [hl,hmem] at hy
    obtain ⟨i,g1,g2,g3,g4⟩:=h3.key y hy.1
    have hne:i ≠ k:=fun e => hy.2 (by rw [g2,e])
    exact ⟨i,g1,g2,by unfold upd; rw [if_neg hne]; exact g3,by unfold upd; rw [if_neg hne]; exact g4.kx hx hF⟩
   ·
    unfold upd at hi
    split at hi
    ·
     exact absurd rfl hi
    ·
     next e =>
     obtain ⟨y,hy,e1⟩:=h3.all i hi
     have h10:y.key ≠ .int .i64 (k:Int):=by
      rw [e1]
      intro e2
      have:(i:Int) = k:=by injection e2
      omega
     exact ⟨y,by rw [hl,hmem]; exact ⟨hy,h10⟩,e1⟩
theorem drop_nil (w:World) (k:Nat) (ty:TypeId):(Builtin.delete_ #[85,3] ty #[.map none,.int .i64 (k:Int)]).run Tryz.prog w = .ok (.tuple #[]) w:=by
 simp [Builtin.delete_,run_underlying und_n,run_checkKey und_k (keyK k),Result.andThen]
end
end Bp
end Go.Proofs.YtdcgdpbgnijnpaaGreat

namespace Go.Proofs.YtdcgdpbgnijnpaaGreat
open Go.RowKit Go.MapKept
open Go.ChangeMaps (setBlock)
namespace Bp
def RowM (B:Nat) (w:World) (v:Value) (n:Nat) (f:Nat→Int):Prop:=(v = .map none∧∀ k,f k = 0) ∨ ∃ b,v = .map (some b)∧NumM B w b n f
section
variable {T:Nat→Prop} {B n:Nat} {w w':World} {v:Value} {f:Nat→Int}
theorem RowM.kx (h:RowM B w v n f) (k:KX T w w') (hT:Free 40 T w) (hb:∀ b,v = .map (some b)→¬ T b):RowM B w' v n f:=by
 rcases h with h | ⟨b,rfl,h⟩
 ·
  exact .inl h
 ·
  exact .inr ⟨b,rfl,h.kx k hT (hb b rfl)⟩
theorem RowM.kept (h:RowM B w v n f) (k:Kept w w'):RowM B w' v n f:=h.kx (T:=fun _ => False) (KX.of k) (fun _ h => h.elim) (fun _ _ h => h)
theorem RowM.shape (h:RowM B w v n f):∃ mo,v = .map mo:=by
 rcases h with ⟨rfl,_⟩ | ⟨b,rfl,_⟩
 ·
  exact ⟨_,rfl⟩
 ·
  exact ⟨_,rfl⟩
theorem RowM.congr {g:Nat→Int} (h:RowM B w v n f) (e:∀ k,f k = g k):RowM B w v n g:=by
 have:f = g:=funext e
 rw [← this]; exact h
theorem RowM.lt_n (h:RowM B w v n f) {k:Nat} (hk:f k ≠ 0):k < n:=by
 rcases h with ⟨_,h⟩ | ⟨b,_,h⟩
 ·
  exact absurd (h k) hk
 ·
  exact h.lt_n hk
theorem RowM.look {mo:Option Nat} (h:RowM B w (.map mo) n f) (k:Nat):∃ v,NV B w v (f k)∧(Instr.lookup 85 (.map mo) (.int .i64 (k:Int)) false).run Tryz.prog w = .ok v w∧(Instr.lookup 85 (.map mo) (.int .i64 (k:Int)) true).run Tryz.prog w = .ok (.tuple #[v,.bool (decide (f k ≠ 0))]) w:=by
 rcases h with ⟨e,h⟩ | ⟨b,e,h⟩
 ·
  cases e
  refine ⟨_,by rw [h k]; exact NV.nought B w,look_nil w k,?_⟩
  simp [Instr.lookup,run_underlying und_n,run_checkKey und_k (keyK k),Instr.findKey,Instr.findNow,run_underlying und_k,Result.andThen,h k]
 ·
  cases e
  exact h.look k
end
def Rg (B:Nat) (w:World) (r b n:Nat) (f:Nat→Int) (D:List Nat):Prop :=
 B≤b∧∃ es clock seen,w.heap[b]? = some (.map es clock)∧w.heap[r]? = some (.mapIter (some b) clock seen clock)∧Stamped es clock∧Ents B w n f es∧(∀ x ∈ es.toList,∀ k:Nat,x.key = .int .i64 (k:Int)→(seen.contains x.born = true ↔ k ∈ D))∧D.Nodup∧∀ k ∈ D,f k ≠ 0
def RgO (B:Nat) (w:World) (r:Nat) (mo:Option Nat) (n:Nat) (f:Nat→Int) (D:List Nat):Prop :=
 (mo = none∧w.heap[r]? = some (.mapIter none 0 #[] 0)∧(∀ k,f k = 0)∧D = []) ∨ ∃ b,mo = some b∧Rg B w r b n f D
section
variable {T:Nat→Prop} {B r n:Nat} {mo:Option Nat} {w w':World} {f:Nat→Int} {D:List Nat}
theorem Rg.num {b:Nat} (h:Rg B w r b n f D):NumM B w b n f:=by
 obtain ⟨h0,es,clock,seen,h1,h2,h3,h4,_⟩:=h
 exact ⟨h0,es,clock,h1,h3,h4⟩
theorem RgO.kx (h:RgO B w r mo n f D) (k:KX T w w') (hT:Free 40 T w) (hr:¬ T r) (hb:∀ b,mo = some b→¬ T b):RgO B w' r mo n f D:=by
 rcases h with ⟨rfl,h1,h2⟩ | ⟨b,rfl,h0,es,clock,seen,h1,h2,h3,h4,h5⟩
 ·
  exact .inl ⟨rfl,(k.block r (Array.getElem?_eq_some_iff.1 h1).1 hr).trans h1,h2⟩
 ·
  exact .inr ⟨b,rfl,h0,es,clock,seen,(k.block b (Array.getElem?_eq_some_iff.1 h1).1 (hb b rfl)).trans h1,(k.block r (Array.getElem?_eq_some_iff.1 h2).1 hr).trans h2,h3,h4.kx k hT,h5⟩
theorem RgO.kept (h:RgO B w r mo n f D) (k:Kept w w'):RgO B w' r mo n f D:=h.kx (T:=fun _ => False) (KX.of k) (fun _ h => h.elim) (fun h => h) (fun _ _ h => h)
theorem RgO.row (h:RgO B w r mo n f D):RowM B w (.map mo) n f:=by
 rcases h with ⟨rfl,_,h,_⟩ | ⟨b,rfl,h⟩
 ·
  exact .inl ⟨rfl,h⟩
 ·
  exact .inr ⟨b,rfl,h.num⟩
theorem RgO.lt (h:RgO B w r mo n f D):r < w.heap.size:=by
 rcases h with ⟨_,h,_⟩ | ⟨b,_,_,es,clock,seen,_,h,_⟩
 ·
  exact (Array.getElem?_eq_some_iff.1 h).1
 ·
  exact (Array.getElem?_eq_some_iff.1 h).1
theorem RgO.free (h:RgO B w r mo n f D) (t:TypeId):Free t (fun k => k = r) w:=by
 intro k hk cur fr e
 subst hk
 rcases h with ⟨_,h,_⟩ | ⟨b,_,_,es,clock,seen,_,h,_⟩
 ·
  rw [h] at e; cases e
 ·
  rw [h] at e; cases e
theorem RgO.ne (h:RgO B w r mo n f D):∀ b,mo = some b→b ≠ r:=by
 intro b e e'
 subst e'
 rcases h with ⟨e1,_⟩ | ⟨b',e1,_,es,clock,seen,h1,h2,_⟩
 ·
  rw [e1] at e; cases e
 ·
  rw [e1] at e; cases e
  rw [h1] at h2; cases h2
theorem RgO.far {b n':Nat} {g:Nat→Int} (h:RgO B w r mo n f D) (hm:NumM B w b n' g):b ≠ r:=by
 intro e
 subst e
 obtain ⟨_,es,clock,h1,_⟩:=hm
 rcases h with ⟨_,h2,_⟩ | ⟨b',_,_,es,clock,seen,_,h2,_⟩ <;> (rw [h1] at h2; cases h2)
theorem RgO.len (h:RgO B w r mo n f D):D.length≤n:=by
 have hd:D.Nodup∧∀ k ∈ D,k < n:=by
  rcases h with ⟨_,_,_,rfl⟩ | ⟨b,_,h⟩
  ·
   exact ⟨List.nodup_nil,fun k hk => by cases hk⟩
  ·
   have hn:=h.num
   obtain ⟨_,es,clock,seen,_,_,_,_,_,h1,h2⟩:=h
   exact ⟨h1,fun k hk => hn.lt_n (h2 k hk)⟩
 have hp:(D ++ (List.range n).filter fun a => !D.contains a).Perm (List.range n):=by
  rw [List.perm_ext_iff_of_nodup ?_ List.nodup_range]
  ·
   intro a
   rw [List.mem_append,List.mem_filter,List.mem_range]
   constructor
   ·
    rintro (h | h)
    ·
     exact hd.2 a h
    ·
     exact h.1
   ·
    intro h
    by_cases hm:a ∈ D
    ·
     exact .inl hm
    ·
     exact .inr ⟨h,by simp [hm]⟩
  ·
   refine List.nodup_append.2 ⟨hd.1,List.nodup_range.filter _,fun a ha b hb e => ?_⟩
   subst e
   have:=(List.mem_filter.1 hb).2
   simp [ha] at this
 have:=hp.length_eq
 rw [List.length_append,List.length_range] at this
 omega
def Done (f:Nat→Int) (D:List Nat):Prop:=∀ k,f k ≠ 0→k ∈ D
theorem rangeM (h:RowM B w (.map mo) n f):∃ o,(Instr.range 85 (.map mo)).run Tryz.prog w = .ok (.pointer (some ⟨w.heap.size,0,none⟩)) (w.alloc o)∧RgO B (w.alloc o) w.heap.size mo n f []:=by
 rcases h with ⟨e,h⟩ | ⟨b,e,h⟩
 ·
  cases e
  exact ⟨_,run_range_nilMap w _ _ _ und_n,.inl ⟨rfl,heap_alloc_new w _,h,rfl⟩⟩
 ·
  cases e
  have hlt:=h.lt
  obtain ⟨h0,es,clock,h1,h2,h3⟩:=h
  refine ⟨_,run_range_map w _ _ _ b es clock und_n h1,.inr ⟨b,rfl,h0,es,clock,#[],?_,heap_alloc_new w _,h2,?_,fun x _ k _ => by simp,List.nodup_nil,fun k hk => by cases hk⟩⟩
  ·
   rw [heap_alloc_old w _ hlt]; exact h1
  ·
   exact h3.kx (T:=fun _ => False) (KX.of ((Kept.refl w).alloc _)) (fun _ h => h.elim)
theorem nextM (h:RgO B w r mo n f D):(Done f D∧∀ ty,(Instr.next (.pointer (some ⟨r,0,none⟩)) false ty).run Tryz.prog w = .ok (.tuple #[.bool false]) w) ∨
  ∃ (k:Nat) (v:Value) (w':World),k ∉ D∧f k ≠ 0∧k < n∧NV B w' v (f k)∧RgO B w' r mo n f (k :: D)∧KX (fun i => i = r) w w'∧w'.heap.size = w.heap.size ∧
   (∀ ty,(Instr.next (.pointer (some ⟨r,0,none⟩)) false ty).run Tryz.prog w = .ok (.tuple #[.bool true,.int .i64 (k:Int),v]) w')∧(Instr.entry (.pointer (some ⟨r,0,none⟩))).run Tryz.prog w' = .ok (.tuple #[.int .i64 (k:Int),v]) w':=by
 have hF:=h.free 40
 rcases h with ⟨rfl,h1,h2,rfl⟩ | ⟨b,rfl,h0,es,clock,seen,h1,h2,h3,h4,h5,h6,h7⟩
 ·
  left
  refine ⟨fun k hk => absurd (h2 k) hk,fun ty => ?_⟩
  simp only [Instr.next,getObj,Sem.run_bind,Sem.run,h1,Result.andThen]
  rfl
 ·
  rcases run_next_at (P:=Tryz.prog) w 0 r b clock clock seen es clock h2 h1 h3.1 (Nat.le_refl _) with ⟨e0,hrun⟩ | ⟨x,hx,w1,hw1,hrun⟩
  ·
   left
   have hall:=all_seen es seen e0
   refine ⟨fun k hk => ?_,fun ty => hrun⟩
   obtain ⟨x,hx,e⟩:=h4.all k hk
   exact (h5 x hx k e).1 (hall x hx)
  ·
   right
   obtain ⟨hx1,hx2⟩:=mem_left hx
   obtain ⟨k,hk,e,hfk,hv⟩:=h4.key x hx1
   have hkx:KX (fun i => i = r) w (setBlock w1 r (.mapIter (some b) clock (seen.push x.born) clock))∧(setBlock w1 r (.mapIter (some b) clock (seen.push x.born) clock)).heap.size = w.heap.size:=by
    have hk1:=kx_setBlock (w:=w1) (b:=r) (.mapIter (some b) clock (seen.push x.born) clock)
    rcases hw1 with rfl | rfl
    ·
     exact hk1
    ·
     exact ⟨(KX.of (Kept.refl w).drew).trans hk1.1,hk1.2⟩
   have hrlt:r < w.heap.size:=(Array.getElem?_eq_some_iff.1 h2).1
   have hnot:k ∉ D:=fun hm => by
    have:=(h5 x hx1 k e).2 hm
    rw [hx2] at this; cases this
   have hne:b ≠ r:=by
    intro e'
    subst e'
    rw [h1] at h2; cases h2
   have hb':(setBlock w1 r (.mapIter (some b) clock (seen.push x.born) clock)).heap[b]? = some (.map es clock):=(hkx.1.block b (Array.getElem?_eq_some_iff.1 h1).1 hne).trans h1
   have hr':(setBlock w1 r (.mapIter (some b) clock (seen.push x.born) clock)).heap[r]? = some (.mapIter (some b) clock (seen.push x.born) clock):=by
    show (w1.heap.setIfInBounds r _)[r]? = _
    have:r < w1.heap.size:=by rcases hw1 with rfl | rfl <;> exact hrlt
    simp [this]
   have hen:=run_entry_at (P:=Tryz.prog) (setBlock w1 r (.mapIter (some b) clock (seen.push x.born) clock)) r b clock seen es clock x hr' hb' hx1 h3.2.1
   rw [e] at hen hrun
   refine ⟨k,x.val,setBlock w1 r (.mapIter (some b) clock (seen.push x.born) clock),hnot,hfk,hk,hv.kx hkx.1 hF,.inr ⟨b,rfl,h0,es,clock,seen.push x.born,hb',hr',h3,h4.kx hkx.1 hF,fun y hy j ej => ?_,List.nodup_cons.2 ⟨hnot,h6⟩,fun j hj => ?_⟩,hkx.1,hkx.2,fun ty => hrun,hen⟩
   ·
    rw [contains_push,Bool.or_eq_true,h5 y hy j ej,List.mem_cons]
    constructor
    ·
     rintro (h | h)
     ·
      exact .inr h
     ·
      left
      have hyx:y = x:=born_inj h3.2.1 hy hx1 (by simpa using h)
      subst hyx
      rw [e] at ej
      have:(k:Int) = j:=by injection ej
      omega
    ·
     rintro (rfl | h)
     ·
      right
      have hyx:y.key = x.key:=by rw [ej,e]
      have:=(stamped_iff es clock).1 h3
      have hyx:y = x:=by
       rcases List.pairwise_iff_getElem.1 this.2.2 with hp
       obtain ⟨i1,l1,e1⟩:=List.getElem_of_mem hy
       obtain ⟨i2,l2,e2⟩:=List.getElem_of_mem hx1
       rcases Nat.lt_trichotomy i1 i2 with hlt | heq | hgt
       ·
        exact absurd (by rw [e1,e2]; exact hyx) (hp i1 i2 l1 l2 hlt)
       ·
        subst heq; rw [← e1,← e2]
       ·
        exact absurd (by rw [e1,e2]; exact hyx.symm) (hp i2 i1 l2 l1 hgt)
      rw [hyx]; simp
     ·
      exact .inl h
   ·
    rcases List.mem_cons.1 hj with rfl | hj
    ·
     exact hfk
    ·
     exact h7 j hj
end
end Bp
end Go.Proofs.YtdcgdpbgnijnpaaGreat

namespace Go.Proofs.YtdcgdpbgnijnpaaGreat
open Go.RowKit Go.MapKept
namespace Bp
theorem NumM.look2 {B b n:Nat} {w:World} {f:Nat→Int} (h:NumM B w b n f) (k:Nat):∃ v,NV B w v (f k)∧∀ V:World,V.heap[b]? = w.heap[b]?→(Instr.lookup 85 (.map (some b)) (.int .i64 (k:Int)) false).run Tryz.prog V = .ok v V:=by
 obtain ⟨h0,es,clock,h1,h2,h3⟩:=h
 rcases h3.at k with ⟨h4,h5,h6⟩ | ⟨j,x,h4,h5,h6,h7,h8,h9⟩
 ·
  refine ⟨.agg #[.bool false,.slice none 0 0],by rw [h5]; exact NV.nought B w,fun V e => ?_⟩
  have h1:=e.trans h1
  simp [Instr.lookup,run_underlying und_n,MapKept.run_getObj_map h1,run_checkKey und_k (keyK k),run_findKey und_k h4,Result.andThen]
 ·
  refine ⟨x.val,h9,fun V e => ?_⟩
  have h1:=e.trans h1
  simp [Instr.lookup,run_underlying und_n,MapKept.run_getObj_map h1,run_checkKey und_k (keyK k),run_findKey und_k h4,Result.andThen]
structure TabR (B:Nat) (w:World) (ao:Option Addr) (bt n:Nat) (ms:Nat→Option Nat) (F:Nat→Nat→Int):Prop where
 lies:0 < n→ao = some ⟨bt,0,none⟩∧B≤bt∧∃ N f,n≤N∧w.rowIs bt 85 N f∧∀ i,i < n→f i = .map (ms i)
 row:∀ i,i < n→RowM B w (.map (ms i)) n (F i)
 one:∀ i j b,i < n→j < n→ms i = some b→ms j = some b→i = j
def tabT (bt n:Nat) (ms:Nat→Option Nat):Nat→Prop:=fun b => (0 < n∧b = bt) ∨ ∃ i,i < n∧ms i = some b
section
variable {T:Nat→Prop} {B bt n:Nat} {ao:Option Addr} {ms:Nat→Option Nat} {w w':World} {F:Nat→Nat→Int}
theorem TabR.congr {G:Nat→Nat→Int} (h:TabR B w ao bt n ms F) (e:∀ i j,i < n→F i j = G i j):TabR B w ao bt n ms G :=
 ⟨h.lies,fun i hi => (h.row i hi).congr fun j => e i j hi,h.one⟩
theorem TabR.kx (h:TabR B w ao bt n ms F) (k:KX T w w') (hT:Free 40 T w) (hb:0 < n→¬ T bt) (hm:∀ i b,i < n→ms i = some b→¬ T b):TabR B w' ao bt n ms F:=by
 refine ⟨fun h0 => ?_,fun i hi => (h.row i hi).kx k hT (fun b e => hm i b hi (by injection e)),h.one⟩
 obtain ⟨h1,h2,N,f,h3,h4,h5⟩:=h.lies h0
 exact ⟨h1,h2,N,f,h3,h4.of_block (k.block bt h4.lt (hb h0)),h5⟩
theorem TabR.kept (h:TabR B w ao bt n ms F) (k:Kept w w'):TabR B w' ao bt n ms F:=h.kx (T:=fun _ => False) (KX.of k) (fun _ h => h.elim) (fun _ h => h) (fun _ _ _ _ h => h)
theorem TabR.cell (h:TabR B w ao bt n ms F) {i:Nat} (hi:i < n):ao = some ⟨bt,0,none⟩∧w.cell? ⟨bt,i,none⟩ = some (.map (ms i))∧w.frozen? ⟨bt,i,none⟩ = false∧bt < w.heap.size∧B≤bt:=by
 obtain ⟨h1,h2,N,f,h3,h4,h5⟩:=h.lies (by omega)
 exact ⟨h1,by rw [h4.cell (show i < N by omega),h5 i hi],h4.frozen i,h4.lt,h2⟩
theorem TabR.map (h:TabR B w ao bt n ms F) {i b:Nat} (hi:i < n) (e:ms i = some b):NumM B w b n (F i):=by
 rcases h.row i hi with ⟨h1,_⟩ | ⟨b',h1,h2⟩
 ·
  rw [e] at h1; cases h1
 ·
  rw [e] at h1
  cases h1
  exact h2
theorem TabR.far (h:TabR B w ao bt n ms F) (h0:0 < n) {b n':Nat} {g:Nat→Int} (hm:NumM B w b n' g):b ≠ bt:=by
 obtain ⟨_,_,N,f,_,⟨c,h4,_⟩,_⟩:=h.lies h0
 obtain ⟨_,es,clock,h5,_⟩:=hm
 intro e
 subst e
 rw [h5] at h4; cases h4
theorem TabR.lt (h:TabR B w ao bt n ms F):∀ b,tabT bt n ms b→b < w.heap.size∧B≤b:=by
 rintro b (⟨h0,rfl⟩ | ⟨i,hi,e⟩)
 ·
  obtain ⟨_,h2,N,f,_,h4,_⟩:=h.lies h0
  exact ⟨h4.lt,h2⟩
 ·
  have hm:=h.map hi e
  exact ⟨hm.lt,hm.1⟩
theorem TabR.free (h:TabR B w ao bt n ms F) {t:TypeId} (ht:t ≠ 85):Free t (tabT bt n ms) w:=by
 rintro b (⟨h0,rfl⟩ | ⟨i,hi,e⟩) cur fr eb
 ·
  obtain ⟨_,_,N,f,_,⟨c,h4,_⟩,_⟩:=h.lies h0
  rw [h4] at eb
  injection eb with eb
  injection eb with _ e2
  exact ht e2.symm
 ·
  exact (h.map hi e).free t b rfl cur fr eb
theorem TabR.drop (h:TabR B w ao bt n ms F) {r b c:Nat} (hr:r < n) (e:ms r = some b) (hM:NumM B w' b n (upd (F r) c 0)) (k:KX (fun i => i = b) w w'):TabR B w' ao bt n ms (fun i j => if i = r then upd (F r) c 0 j else F i j):=by
 have hb:=h.map hr e
 refine ⟨fun h0 => ?_,fun i hi => ?_,h.one⟩
 ·
  obtain ⟨h1,h2,N,f,h3,h4,h5⟩:=h.lies h0
  exact ⟨h1,h2,N,f,h3,h4.of_block (k.block bt h4.lt (fun e' => h.far h0 hb e'.symm)),h5⟩
 ·
  by_cases hi2:i = r
  ·
   subst hi2
   refine (show RowM B w' (.map (ms i)) n (upd (F i) c 0) from .inr ⟨b,by rw [e],hM⟩).congr fun j => ?_
   rw [if_pos rfl]
  ·
   refine ((h.row i hi).kx k (hb.free _) (fun b' e' e2 => ?_)).congr fun j => ?_
   ·
    subst e2
    exact hi2 (h.one i r b' hi hr (by injection e') e)
   ·
    rw [if_neg hi2]
theorem TabR.put (h:TabR B w ao bt n ms F) {r:Nat} (hr:r < n) (mo:Option Nat) (f:Nat→Int) (hM:RowM B (w.setCell ⟨bt,r,none⟩ (.map mo)) (.map mo) n f) (hmo:∀ b i,mo = some b→i < n→i ≠ r→ms i ≠ some b):TabR B (w.setCell ⟨bt,r,none⟩ (.map mo)) ao bt n (fun i => if i = r then mo else ms i) (fun i j => if i = r then f j else F i j):=by
 have k:KX (fun i => i = bt) w (w.setCell ⟨bt,r,none⟩ (.map mo)):=KX.setCell (T:=fun i => i = bt) (KX.refl w) (p:=⟨bt,r,none⟩) (.inl rfl) _
 obtain ⟨h1,h2,N,g,h3,h4,h5⟩:=h.lies (by omega)
 have hfree:Free 40 (fun i => i = bt) w:=by
  intro b hb cur fr eb
  subst hb
  obtain ⟨c,h4,_⟩:=h4
  rw [h4] at eb
  injection eb with eb
  injection eb with _ e2
  exact absurd e2 (by decide)
 refine ⟨fun h0 => ⟨h1,h2,N,_,h3,h4.set r (.map mo),fun i hi => ?_⟩,fun i hi => ?_,fun i j b hi hj e1 e2 => ?_⟩
 ·
  by_cases e:i = r
  ·
   rw [if_pos e,if_pos e]
  ·
   rw [if_neg e,if_neg e]; exact h5 i hi
 ·
  by_cases e:i = r
  ·
   subst e
   simp only
   exact hM
  ·
   simp only [if_neg e]
   exact (h.row i hi).kx k hfree (fun b eb e2 => by
    subst e2
    exact h.far (by omega) (h.map hi (by injection eb)) rfl)
 ·
  by_cases ei:i = r
  ·
   by_cases ej:j = r
   ·
    omega
   ·
    rw [if_pos ei] at e1
    rw [if_neg ej] at e2
    exact absurd e2 (hmo b j e1 hj ej)
  ·
   by_cases ej:j = r
   ·
    rw [if_neg ei] at e1
    rw [if_pos ej] at e2
    exact absurd e1 (hmo b i e2 hi ei)
   ·
    rw [if_neg ei] at e1
    rw [if_neg ej] at e2
    exact h.one i j b hi hj e1 e2
end
end Bp
end Go.Proofs.YtdcgdpbgnijnpaaGreat

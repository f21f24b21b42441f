/- model.isName: a name's bytes. -/
import Derived.Test.YthfbfbfambbkaaaGreatDoorVval
import Derived.Laws.IdiomStrings
namespace Go.Proofs.YthfbfbfambbkaaaGreatDoor
open Go.RowKit
namespace V
open Q (hid' Row3 Row2 okN)
def BSl (w:World) (v:Value) (l:List UInt8):Prop :=
 ∃ (ao:Option Addr) (cap:Nat),v = .slice ao l.length cap /\
  (0 < l.length->∃ b off:Nat,ao = some ⟨b,off,none⟩/\b < w.heap.size/\∀ j,j < l.length->w.cell? ⟨b,off + j,none⟩ = some (.int .u8 ((l.getD j 0).toNat:Int)))
theorem BSl.kept {w w':World} {v:Value} {l:List UInt8} (h:BSl w v l) (k:Kept w w'):BSl w' v l:=by
 obtain ⟨ao,cap,rfl,hx⟩:=h
 refine ⟨ao,cap,rfl,fun h0 => ?_⟩
 obtain ⟨b,off,rfl,hlt,hc⟩:=hx h0
 refine ⟨b,off,rfl,Nat.lt_of_lt_of_le hlt k.size,fun j hj => ?_⟩
 rw [Below.cell k (p:=⟨b,off + j,none⟩) hlt]
 exact hc j hj
theorem BSl.len {w:World} {ao:Option Addr} {n c:Nat} {l:List UInt8} (h:BSl w (.slice ao n c) l):n = l.length:=by
 obtain ⟨_,_,e,_⟩:=h
 simp at e; exact e.2.1
set_option maxHeartbeats 4000000 in
theorem idx_bytes (g:Nat) (lb:Array Value) (p:UInt8->Bool) (eg:∀ args w,(callFunc g args).run Tryz.prog w = .ok (.enter g args) w) (ao:Option Addr) (n c:Nat) (l:List UInt8) (w:World)
  (hp:∀ W (x:UInt8),Kept w W->Calls Tryz.prog g (#[.int .u8 (x.toNat:Int)] ++ lb) W fun e w' => e = .returned (.bool (p x))/\Kept w w') (h:BSl w (.slice ao n c) l) (hbig:n<=9223372036854775807) :
  Calls Tryz.prog 117 #[.slice ao n c,.func (.func g) #[] lb] w fun e w' => Kept w w'/\IdxIs e n (fun j => p (l.getD j 0)):=by
 have HS:=hid' h
 clear h
 go_enter Tryz.func117,Tryz.ntmps117
 go_wp2
 go_loopg [5,8] n (fun gg _ s8 wr => ∃ kk:Nat,kk<=n/\n - kk<=gg/\s8 = .int .i64 kk/\Aside (Kept w wr)/\Aside (∀ j,j < kk->p (l.getD j 0) = false))
 case atStart => exact ⟨0,Nat.zero_le _,by omega,rfl,Kept.refl w,fun j hj => absurd hj (Nat.not_lt_zero _)⟩
 case round =>
  obtain ⟨kk,hkk,hg,rfl,BW,A⟩:=hrel
  by_cases hlt:kk < n
  ·
   have hltz:(kk:Int) < (n:Int):=by omega
   obtain ⟨ao',cap',hv,hx⟩:=HS.out.kept BW.out
   simp only [Value.slice.injEq] at hv
   obtain ⟨rfl,hn,rfl⟩:=hv
   obtain ⟨b,off,rfl,hb,hc⟩:=hx (by omega)
   have c0:=hc kk (by omega)
   have hcall:=hp wr (l.getD kk 0) BW.out
   have HN:=hid' hn
   clear hx hc hp hn
   generalize hy:l.getD kk 0 = y at c0 hcall
   have B:Aside (l.getD kk 0 = y):=hy
   clear hy
   cases hq:p y with
   | true =>
    rw [hq] at hcall
    go_wp2_with fail
    refine hcall.mono ?_
    rintro e w' ⟨rfl,hb'⟩
    go_wp2
    go_ret
    exact ⟨hb',idx_hit hlt A.out (by show p (l.getD kk 0) = true; rw [B.out]; exact hq)⟩
   | false =>
    rw [hq] at hcall
    go_wp2_with fail
    refine hcall.mono ?_
    rintro e w' ⟨rfl,hb'⟩
    go_wp2
    go_roundg (n - (kk + 1))
    case measure => omega
    case rel =>
     refine ⟨kk + 1,by omega,by omega,by go_num,hb',(show Aside _ from fun j hj => ?_)⟩
     by_cases e:j = kk
     ·
      subst e
      rw [B.out]; exact hq
     ·
      exact A.out j (by omega)
  ·
   have hltz:¬ (kk:Int) < (n:Int):=by omega
   have:kk = n:=by omega
   subst this
   go_wp2
   go_ret
   exact ⟨BW.out,idx_miss A.out⟩
set_option maxHeartbeats 4000000 in
theorem con_bytes (g:Nat) (lb:Array Value) (p:UInt8->Bool) (eg:∀ args w,(callFunc g args).run Tryz.prog w = .ok (.enter g args) w) (ao:Option Addr) (n c:Nat) (l:List UInt8) (w:World)
  (hp:∀ W (x:UInt8),Kept w W->Calls Tryz.prog g (#[.int .u8 (x.toNat:Int)] ++ lb) W fun e w' => e = .returned (.bool (p x))/\Kept w w') (h:BSl w (.slice ao n c) l) (hbig:n<=9223372036854775807) :
  Calls Tryz.prog 82 #[.slice ao n c,.func (.func g) #[] lb] w fun e w' => Kept w w'/\e = .returned (.bool (l.any p)):=by
 have hc:=idx_bytes g lb p eg ao n c l w hp h hbig
 have HL:=hid' h.len
 clear hp h
 go_enter Tryz.func82,Tryz.ntmps82
 go_wp2_with fail
 refine hc.mono ?_
 rintro e w' ⟨hk,i,hi,h1,h2,rfl⟩
 have hA:=any_of_idx hi h1 h2
 rw [HL.out] at hA
 rw [any_range l 0 p] at hA
 rw [<- HL.out] at hA
 generalize (if i = n then (-1:Int) else (i:Int)) = z at hA ⊢
 have HA:=hid' hA
 clear hA h1 h2 hi
 go_wp2
 all_goals
  go_ret
  refine ⟨hk,congrArg (fun b => Ending.returned (Value.bool b)) ?_⟩
  rw [<- HA.out]
  try simp_all
def nbI (z:Int):Bool:=decide (97<=z/\z<=122 ∨ 48<=z/\z<=57 ∨ z = 95)
def nb (c:UInt8):Bool:=nbI (c.toNat:Int)
def okName (l:List UInt8):Bool:=decide (1<=l.length/\l.length<=16) && !(l.any fun c => !nb c)
set_option maxHeartbeats 4000000 in
theorem isNameByte_any (z:Int) (w:World):Calls Tryz.prog 84 #[.int .u8 z] w fun e w' => w' = w/\e = .returned (.bool (nbI z)):=by
 go_enter Tryz.func84,Tryz.ntmps84
 go_wp2
 all_goals
  go_ret
  refine ⟨rfl,congrArg (fun b => Ending.returned (Value.bool b)) ?_⟩
  unfold nbI
  rw [Bool.eq_iff_iff]
  simp_all
  try omega
set_option maxHeartbeats 4000000 in
theorem name1 (c:UInt8) (w:World):Calls Tryz.prog 83 #[.int .u8 (c.toNat:Int)] w fun e w' => e = .returned (.bool (!nb c))/\Kept w w':=by
 go_enter Tryz.func83,Tryz.ntmps83
 go_wp2_with fail
 refine (isNameByte_any _ _).mono ?_
 rintro e w' ⟨rfl,rfl⟩
 go_wp2_with fail
 go_ret
 exact ⟨rfl,Kept.refl _⟩
set_option maxHeartbeats 4000000 in
theorem isName_any (s:ByteArray) (w:World) (hs:s.size<=9223372036854775807):Calls Tryz.prog 44 #[.string s] w fun e w' => Kept w w'/\e = .returned (.bool (okName s.data.toList)):=by
 have hl:s.data.toList.length = s.size:=by rw [Array.length_toList]; rfl
 have HO:=hid' (show okName s.data.toList = (decide (1<=s.size/\s.size<=16) && !(s.data.toList.any fun c => !nb c)) by unfold okName; rw [hl])
 generalize okName s.data.toList = ok at HO ⊢
 by_cases h1:s.size < 1
 ·
  have h1':(s.size:Int) < 1:=by omega
  go_enter Tryz.func44,Tryz.ntmps44
  go_wp2_with fail
  go_ret
  exact ⟨Kept.refl _,by rw [HO.out,decide_eq_false (by omega)]; rfl⟩
 ·
  have h1':¬ (s.size:Int) < 1:=by omega
  by_cases h2:16 < s.size
  ·
   have h2':(16:Int) < (s.size:Int):=by omega
   go_enter Tryz.func44,Tryz.ntmps44
   go_wp2_with fail
   go_ret
   exact ⟨Kept.refl _,by rw [HO.out,decide_eq_false (by omega)]; rfl⟩
  ·
   have h2':¬ (16:Int) < (s.size:Int):=by omega
   have hcv:=run_bytes_of_string (P:=Tryz.prog) w 9 105 5 s Tryz.underlying9 Tryz.underlying105 Tryz.underlying5
   have hB:BSl (w.alloc (.cells (bytesRow s (grownCap w s.size 0 5)) 5 ((bytesRow s (grownCap w s.size 0 5)).size,(bytesRow s (grownCap w s.size 0 5)).size + 1))).drew (.slice (some ⟨w.heap.size,0,none⟩) s.size (grownCap w s.size 0 5)) s.data.toList:=by
    refine ⟨_,_,by rw [hl],fun _ => ⟨w.heap.size,0,rfl,by show w.heap.size < (w.alloc _).heap.size; simp,fun j hj => ?_⟩⟩
    have hj':j < s.data.size:=by rw [Array.length_toList] at hj; exact hj
    rw [Nat.zero_add]
    show (w.alloc _).cell? _ = _
    rw [World.cell?_alloc_mark,bytesRow_at s _ j hj',List.getD_eq_getElem?_getD,List.getElem?_eq_getElem hj]; rfl
   have hK:=(Kept.refl w).alloc (.cells (bytesRow s (grownCap w s.size 0 5)) 5 ((bytesRow s (grownCap w s.size 0 5)).size,(bytesRow s (grownCap w s.size 0 5)).size + 1)) |>.drew
   have HB:=hid' (And.intro hB hK)
   clear hB hK
   go_enter Tryz.func44,Tryz.ntmps44
   go_wp2_with fail
   clear hcv
   generalize (w.alloc (.cells (bytesRow s (grownCap w s.size 0 5)) 5 ((bytesRow s (grownCap w s.size 0 5)).size,(bytesRow s (grownCap w s.size 0 5)).size + 1))).drew = W at HB ⊢
   refine (con_bytes 83 #[] (fun c => !nb c) (fun _ _ => by simp) _ _ _ _ W (fun V x hV => (name1 x V).mono fun e w' h => ⟨h.1,hV.trans h.2⟩) HB.out.1 (by omega)).mono ?_
   rintro e w' ⟨hk,rfl⟩
   have HN:=hid' (HB.out.2.trans hk)
   clear hk
   obtain ⟨b,hb⟩:∃ b,b = s.data.toList.any (fun c => !nb c):=⟨_,rfl⟩
   rw [<- hb]
   have HO2:=hid' (show ok = !b by rw [HO.out,decide_eq_true (by omega),hb]; rfl)
   clear hb HO
   go_wp2_with fail
   go_ret
   exact ⟨HN.out,by rw [HO2.out]; rfl⟩
end V
end Go.Proofs.YthfbfbfambbkaaaGreatDoor

/- Sheets in memory; sparse.rise, Check. sparse.sheetOf. sparse's sheets: has, heights, cost. sparse's sheets: heights, best. sparse's sheets: eliminate. sparse's sheets: pattern. The program's contracts: sparse.Cost, Best, Eliminate. The program's contracts: sparse.Order, Fill. shuntref09.Ints of equal lists; rows that a literal makes; shuntlaw13.awake. shuntlaw13: wide, SparseFills, SparseBest. Patterns that an elimination leaves, as lists; orders that fit: the mathematics of SparseOrders. -/
import Derived.Test.YtdcgdpbgnijnpaaGreatSw2
import Derived.Test.YtdcgdpbgnijnpaaGreatGai
import Derived.Test.YtdcgdpbgnijnpaaGreatGad
namespace Go.Proofs.YtdcgdpbgnijnpaaGreat
open Go.RowKit
open V (RowL RowL.alloc RowL.lt RowL.cell RowL.fz RowL.kept RowL.block RowL.set RowL.far)
namespace Sp
def vrow (n:Nat) (f:Nat→Value):List Value:=(List.range n).map f
theorem vrow_len (n:Nat) (f:Nat→Value):(vrow n f).length = n:=by unfold vrow; simp
theorem vrow_at {n k:Nat} {f:Nat→Value} (h:k < n):(vrow n f)[k]? = some (f k):=by
 unfold vrow
 rw [List.getElem?_map,List.getElem?_range h]
 rfl
theorem vrow_congr {n:Nat} {f g:Nat→Value} (h:∀ j,j < n→f j = g j):vrow n f = vrow n g:=by
 unfold vrow
 exact List.map_congr_left fun j hj => h j (List.mem_range.1 hj)
theorem vrow_set {n k:Nat} {f:Nat→Value} (v:Value):(vrow n f).set k v = vrow n (fun j => if j = k then v else f j):=by
 apply List.ext_getElem?
 intro j
 by_cases hj:j < n
 ·
  rw [vrow_at hj]
  by_cases e:j = k
  ·
   subst e
   rw [List.getElem?_set_self (by rw [vrow_len]; exact hj),if_pos rfl]
  ·
   rw [List.getElem?_set_ne (fun h => e h.symm),vrow_at hj,if_neg e]
 ·
  rw [List.getElem?_eq_none (by rw [List.length_set,vrow_len]; omega),List.getElem?_eq_none (by rw [vrow_len]; omega)]
def wv (n:Nat) (f:Nat→Bool):Value:=.int .u64 ((wd n f:Nat):Int)
def wrow (n:Nat) (m:Nat→Nat→Bool):List Value:=vrow n fun i => wv n (m i)
theorem wrow_congr {n:Nat} {m m':Nat→Nat→Bool} (h:∀ i k,i < n→k < n→m i k = m' i k):wrow n m = wrow n m':=vrow_congr fun i hi => by unfold wv; rw [wd_congr fun k hk => h i k hi hk]
theorem wrow_set {n i:Nat} {m m':Nat→Nat→Bool} {f:Nat→Bool} (h1:∀ k,k < n→f k = m' i k) (h2:∀ j k,j < n→k < n→j ≠ i→m j k = m' j k):(wrow n m).set i (wv n f) = wrow n m':=by
 unfold wrow
 rw [vrow_set]
 refine vrow_congr fun j hj => ?_
 by_cases e:j = i
 ·
  rw [if_pos e,e]; unfold wv; rw [wd_congr h1]
 ·
  rw [if_neg e]; unfold wv; rw [wd_congr fun k hk => h2 j k hj hk e]
theorem made_row (x:Value) (hx:x.cells = #[x]) (n:Nat):madeCells x.cells (n * 1) = (vrow n fun _ => x).toArray:=by
 apply Array.ext
 ·
  simp [madeCells,vrow,hx]
 ·
  intro i h1 h2
  simp [madeCells,vrow,hx,Nat.mod_one]
set_option maxRecDepth 100000 in
set_option maxHeartbeats 8000000 in
theorem rise_any (ra:Option Addr) (rl rc n:Nat) (row:List Int) (w:World) (h:ISl w (.slice ra rl rc) row) (hr:rl≤1000000) (hn:n≤1000000) :
  Calls Tryz.prog 114 #[.slice ra rl rc,.int .i64 (n:Int)] w fun e w' => w' = w∧e = .returned (.bool (rowOk n (-1) row)):=by
 have hl:=h.len
 have HL:=hid (And.intro h hl)
 obtain ⟨z,hz⟩:∃ z,z = rowOk n (-1) row:=⟨_,rfl⟩
 have HZ:=hid hz
 rw [← hz]
 clear h hl hz
 go_enter Tryz.func114,Tryz.ntmps114
 go_wp2_with fail
 go_loopw [5,10] (fun v5 v10 wr => ∃ (k:Nat) (x:Int),k≤rl∧0≤x∧x≤(n:Int)∧v5 = .int .i64 x∧v10 = .int .i64 (k:Int)∧wr = w∧Hid (z = rowOk n (x - 1) (row.drop k))) (fun _ v10 _ => rl - (intOf v10).toNat)
 case atStart => exact ⟨0,0,Nat.zero_le _,Int.le_refl _,Int.natCast_nonneg _,rfl,rfl,rfl,HZ.out⟩
 case round =>
  clear HZ
  obtain ⟨k,x,hkl,hx0,hxn,rfl,rfl,rfl,H⟩:=hrel
  by_cases hkt:k < rl
  ·
   have hkk:(k:Int) < (rl:Int):=by omega
   have hk0:(0:Int)≤(k:Int):=by omega
   have hkL:k < row.length:=by have:=HL.out.2; omega
   obtain ⟨b2,o2,rfl,hd⟩:=HL.out.1.at hkL
   have c2:=hd _ (Kept.refl _)
   have H:=hid (show z = ((decide (x - 1 < row.getD k 0) && decide (row.getD k 0 < (n:Int))) && rowOk n (row.getD k 0) (row.drop (k + 1))) by rw [← rowOk_at hkL]; exact H.out)
   clear hd
   generalize row.getD k 0 = y at c2 H
   --%C
   by_cases e1:y < x
   ·
    have HE:=hid (show z = false by rw [H.out,decide_eq_false (show ¬ x - 1 < y by omega)]; rfl)
    go_wp2_with fail
    go_ret
    exact ⟨rfl,by rw [HE.out]; rfl⟩
   ·
    by_cases e2:(n:Int)≤y
    ·
     have HE:=hid (show z = false by rw [H.out,decide_eq_false (show ¬ y < (n:Int) by omega),Bool.and_false]; rfl)
     go_wp2_with fail
     go_ret
     exact ⟨rfl,by rw [HE.out]; rfl⟩
    ·
     have HE:=hid (show z = rowOk n (y + 1 - 1) (row.drop (k + 1)) by rw [H.out,decide_eq_true (show x - 1 < y by omega),decide_eq_true (show y < (n:Int) by omega),Bool.true_and,Bool.true_and,Int.add_sub_cancel])
     go_wp2_with fail
     --%D
     go_roundw
     case rel => exact ⟨k + 1,y + 1,by omega,by omega,by omega,by go_num,by go_num,by first | rfl | trivial,HE.out⟩
     case measure => show rl - ((k:Int) + 1).toNat < rl - (k:Int).toNat; omega
  ·
   have hkk:¬ (k:Int) < (rl:Int):=by omega
   have HE:=hid (show z = true by rw [H.out,List.drop_eq_nil_of_le (by have:=HL.out.2; omega)]; rfl)
   go_wp2_with fail
   go_ret
   exact ⟨rfl,by rw [HE.out]; rfl⟩
set_option maxRecDepth 100000 in
set_option maxHeartbeats 8000000 in
theorem sp_check (ao:Option Addr) (n c:Nat) (P:List (List Int)) (w:World) (h:PatR w (.slice ao n c) P) (hn:n≤1000000) (hr:∀ l ∈ P,l.length≤1000000) :
  Calls Tryz.prog 99 #[.slice ao n c] w fun e w' => Kept w w'∧e = .returned (.int .i64 (chkP P)):=by
 have hl:=h.len
 have HL:=hid (And.intro h (And.intro hl hr))
 obtain ⟨z,hz⟩:∃ z,z = chkP P:=⟨_,rfl⟩
 have HZ:=hid (show z = if (decide (n≤48) && P.all (rowOk n (-1))) = true then 0 else 130 by rw [hz,hl]; rfl)
 rw [← hz]
 clear h hl hr hz
 go_enter Tryz.func99,Tryz.ntmps99
 by_cases h48:48 < n
 ·
  have h1:(48:Int) < (n:Int):=by omega
  have HE:=hid (show z = 130 by rw [HZ.out,decide_eq_false (by omega)]; rfl)
  go_wp2_with fail
  go_ret
  exact ⟨Kept.refl w,by rw [HE.out]; rfl⟩
 ·
  have h1:¬ (48:Int) < (n:Int):=by omega
  have HZ:=hid (show z = if P.all (rowOk n (-1)) = true then 0 else 130 by rw [HZ.out,decide_eq_true (by omega),Bool.true_and])
  go_wp2_with fail
  --%A
  go_loopw [10] (fun v10 wr => ∃ (i:Nat),i≤n∧v10 = .int .i64 (i:Int)∧wr = w∧Hid (z = if (P.drop i).all (rowOk n (-1)) = true then 0 else 130)) (fun v10 _ => n - (intOf v10).toNat)
  case atStart => exact ⟨0,Nat.zero_le _,rfl,rfl,HZ.out⟩
  case round =>
   clear HZ
   obtain ⟨i,hil,rfl,rfl,H⟩:=hrel
   by_cases hit:i < n
   ·
    have hii:(i:Int) < (n:Int):=by omega
    have hi0:(0:Int)≤(i:Int):=by omega
    have hiL:i < P.length:=by have:=HL.out.2.1; omega
    obtain ⟨b,off,rfl,ra,rc,hc,hI⟩:=HL.out.1.row hiL
    have c1:=hc _ (Kept.refl _)
    have HI:=hid hI
    have hlen:(P.getD i []).length≤1000000:=HL.out.2.2 _ (by rw [List.getD_eq_getElem?_getD,List.getElem?_eq_getElem hiL]; exact List.getElem_mem hiL)
    have H:=hid (show z = if (rowOk n (-1) (P.getD i []) && (P.drop (i + 1)).all (rowOk n (-1))) = true then 0 else 130 by rw [← all_at hiL]; exact H.out)
    generalize P.getD i [] = row at c1 HI hlen H
    obtain ⟨rl,hrl⟩:∃ r,r = row.length:=⟨_,rfl⟩
    rw [← hrl] at c1 HI hlen
    clear hc hI hrl
    go_wp2_with fail
    --%B
    refine (rise_any ra rl rc n row _ HI.out hlen hn).mono ?_
    rintro e w1 ⟨rfl,rfl⟩
    cases hro:rowOk n (-1) row with
    | false =>
     have HE:=hid (show z = 130 by rw [H.out,hro]; rfl)
     clear hro
     go_wp2_with fail
     go_ret
     exact ⟨Kept.refl _,by rw [HE.out]; rfl⟩
    | true =>
     have HE:=hid (show z = if (P.drop (i + 1)).all (rowOk n (-1)) = true then 0 else 130 by rw [H.out,hro,Bool.true_and])
     clear hro H
     go_wp2_with fail
     go_roundw
     case rel => exact ⟨i + 1,by omega,by go_num,by first | rfl | trivial,HE.out⟩
     case measure => show n - ((i:Int) + 1).toNat < n - (i:Int).toNat; omega
   ·
    have hii:¬ (i:Int) < (n:Int):=by omega
    have HE:=hid (show z = 0 by rw [H.out,List.drop_eq_nil_of_le (by have:=HL.out.2.1; omega)]; rfl)
    go_wp2_with fail
    go_ret
    exact ⟨Kept.refl _,by rw [HE.out]; rfl⟩
end Sp
end Go.Proofs.YtdcgdpbgnijnpaaGreat

namespace Go.Proofs.YtdcgdpbgnijnpaaGreat
open Go.RowKit
open V (RowL RowL.alloc RowL.lt RowL.cell RowL.fz RowL.kept RowL.block RowL.set RowL.far)
open X (zk zr zl zd region_z)
namespace Sp
theorem info_u64:(Tryz.prog.info? 99).map (fun i => (i.zero,i.size,i.bytes)) = some (some (.int .u64 0),1,8):=by kernel_rfl
theorem und_sheet:Tryz.prog.underlying 140 = some (.slice 99):=by kernel_rfl
theorem make_sheet {n:Nat} (hn:n≤1000000) (u:World):(Instr.makeSlice 140 (.int .i64 (n:Int)) (.int .i64 (n:Int))).run Tryz.prog u = .ok (.slice (some ⟨u.heap.size,0,none⟩) n n) (u.alloc (.cells (wrow n fun _ _ => false).toArray 99)):=by
 obtain ⟨i0,hi,hz0,hz1,hz2⟩:=info_parts info_u64
 have h:=run_make (P:=Tryz.prog) u 140 99 i0 (.int .u64 0) und_sheet hi hz0 .i64 .i64 (n:Int) (n:Int) (by omega) (Int.le_refl _) (by rw [hz2]; omega) (by omega)
 rw [Int.toNat_natCast,hz1,made_row _ rfl] at h
 rw [show (wrow n fun _ _ => false) = vrow n fun _ => .int .u64 0 from vrow_congr fun i _ => by unfold wv; rw [wd_zero]; rfl]
 exact h
theorem make_ints {n:Nat} (hn:n≤1000000) (u:World):(Instr.makeSlice 41 (.int .i64 (n:Int)) (.int .i64 (n:Int))).run Tryz.prog u = .ok (.slice (some ⟨u.heap.size,0,none⟩) n n) (u.alloc (.cells (vrow n fun _ => .int .i64 0).toArray 3)):=by
 obtain ⟨i0,hi,hz0,hz1,hz2⟩:=info_parts info_i64
 have h:=run_make (P:=Tryz.prog) u 41 3 i0 (.int .i64 0) und_ints hi hz0 .i64 .i64 (n:Int) (n:Int) (by omega) (Int.le_refl _) (by rw [hz2]; omega) (by omega)
 rw [Int.toNat_natCast,hz1,made_row _ rfl] at h
 exact h
def mS (P:List (List Int)) (i k:Nat):Nat→Nat→Bool:=fun j c => if j < i then mP P j c else if j = i then mT (P.getD i []) k c else false
theorem mS_zero (P:List (List Int)):mS P 0 0 = fun _ _ => false:=by
 funext j c
 unfold mS mT
 rw [if_neg (by omega)]
 split
 ·
  simp
 ·
  rfl
theorem mS_row {P:List (List Int)} {i k:Nat} (hk:(P.getD i []).length≤k):mS P i k = mS P (i + 1) 0:=by
 funext j c
 unfold mS
 by_cases h:j < i
 ·
  rw [if_pos h,if_pos (by omega)]
 ·
  rw [if_neg h]
  by_cases e:j = i
  ·
   rw [if_pos e,if_pos (by omega),e]
   unfold mT mP
   rw [List.take_of_length_le hk]
  ·
   rw [if_neg e,if_neg (by omega)]
   split
   ·
    unfold mT; simp
   ·
    rfl
theorem mS_step {P:List (List Int)} {n i k x:Nat} (hk:k < (P.getD i []).length) (hx:(P.getD i []).getD k 0 = (x:Int)):(wrow n (mS P i k)).set i (wv n fun c => mS P i k i c || decide (c = x)) = wrow n (mS P i (k + 1)):=by
 refine wrow_set (fun c _ => ?_) (fun j c _ _ hj => ?_)
 ·
  unfold mS
  rw [if_neg (by omega),if_pos rfl,if_neg (by omega),if_pos rfl,← congrFun (mT_step hk hx) c]
  by_cases e:c = x
  ·
   rw [decide_eq_true e,if_pos e,Bool.or_true]
  ·
   rw [decide_eq_false e,if_neg e,Bool.or_false]
 ·
  unfold mS
  rw [if_neg hj,if_neg hj]
theorem or_bit {n x y:Nat} (hn:n≤64) (hx:x < n) (hy:y = 2 ^ x) (f:Nat→Bool):bits .or .u64 ((wd n f:Nat):Int) (y:Int) = ((wd n (fun c => f c || decide (c = x)):Nat):Int):=by
 rw [hy,bits_or_u64_nat _ _ (wd_u64 hn f) (Nat.pow_lt_pow_of_lt (a:=2) (n:=x) (m:=64) (by omega) (by omega)),wd_bit1 hx,wd_or]
set_option maxRecDepth 100000 in
set_option maxHeartbeats 8000000 in
theorem sheetOf_any (ao:Option Addr) (n c:Nat) (P:List (List Int)) (w:World) (h:PatR w (.slice ao n c) P) (hn:n≤1000000) (hr:∀ l ∈ P,l.length≤1000000) :
  Calls Tryz.prog 80 #[.slice ao n c] w fun e w' => Kept w w'∧((okP P = false∧e = .returned (.tuple #[.slice none 0 0,.int .i64 130])) ∨ (okP P = true∧∃ g,w.heap.size≤g∧e = .returned (.tuple #[.slice (some ⟨g,0,none⟩) n n,.int .i64 0])∧RowL 99 w' g (wrow n (mP P)))):=by
 have hl:=h.len
 have HL:=hid (And.intro h (And.intro hl hr))
 have hmk:=make_sheet (n:=n) hn
 clear h hl hr
 go_enter Tryz.func80,Tryz.ntmps80
 go_wp2_with fail
 refine (sp_check ao n c P _ HL.out.1 hn HL.out.2.2).mono ?_
 rintro e w1 ⟨hk,rfl⟩
 have HK:=hid hk
 clear hk
 cases hok:okP P with
 | false =>
  have hc:chkP P = 130:=by unfold chkP; rw [if_neg (by rw [hok]; decide)]
  rw [hc]
  have HOK:=hid hok
  clear hc hok
  go_wp2_with fail
  go_ret2
  exact ⟨HK.out,Or.inl ⟨HOK.out,rfl⟩⟩
 | true =>
  have hc:chkP P = 0:=by unfold chkP; rw [if_pos hok]
  have hn48:n≤48:=by have:=okP_len hok; have:=HL.out.2.1; omega
  rw [hc]
  have HOK:=hid hok
  clear hc hok
  have kA:=(Kept.refl w1).alloc (.cells (wrow n fun _ _ => false).toArray 99)
  have rA:=RowL.alloc 99 w1 (wrow n fun _ _ => false)
  --%A
  go_upto_region 5 with fail
  generalize w1.alloc (.cells (wrow n fun _ _ => false).toArray 99) = W at kA rA ⊢
  obtain ⟨g,hg⟩:∃ q,q = w1.heap.size:=⟨_,rfl⟩
  rw [← hg] at rA ⊢
  have HG:=hid (show w.heap.size≤g by rw [hg]; exact HK.out.size)
  have HQ:=hid (And.intro (HK.out.trans kA) (show RowL 99 W g (wrow n (mS P 0 0)) by rw [mS_zero]; exact rA))
  clear kA rA hg HK
  go_wp2_with fail
  --%B
  go_loopw [20] (fun v20 wr => ∃ (i:Nat),i≤n∧v20 = .int .i64 (i:Int)∧Hid (Kept w wr∧RowL 99 wr g (wrow n (mS P i 0)))) (fun v20 _ => n - (intOf v20).toNat)
  case atStart => exact ⟨0,Nat.zero_le _,rfl,HQ.out⟩
  case round =>
   clear HQ
   obtain ⟨i,hil,rfl,H⟩:=hrel
   by_cases hit:i < n
   ·
    have hii:(i:Int) < (n:Int):=by omega
    have hi0:(0:Int)≤(i:Int):=by omega
    have hiL:i < P.length:=by have:=HL.out.2.1; omega
    obtain ⟨b,off,rfl,ra,rc,hc,hI⟩:=HL.out.1.row hiL
    have c1:=hc _ H.out.1
    have HI:=hid hI
    have HM:=hid (fun x hx => okP_mem HOK.out hiL x hx)
    have hlen:(P.getD i []).length≤n:=by
     have h1:=rowOk_long (okP_row HOK.out hiL) (by omega)
     have h2:=HL.out.2.1
     omega
    obtain ⟨row,hrow⟩:∃ r,r = P.getD i []:=⟨_,rfl⟩
    rw [← hrow] at c1 HI HM hlen
    obtain ⟨rl,hrl⟩:∃ r,r = row.length:=⟨_,rfl⟩
    rw [← hrl] at c1 HI hlen
    have HR:=hid (And.intro hrl hrow)
    clear hc hI hrl hrow
    go_wp2_with fail
    --%C
    go_loopw [27] (fun v27 wr => ∃ (k:Nat),k≤rl∧v27 = .int .i64 (k:Int)∧Hid (Kept w wr∧RowL 99 wr g (wrow n (mS P i k)))) (fun v27 _ => rl - (intOf v27).toNat)
    case atStart => exact ⟨0,Nat.zero_le _,rfl,H.out⟩
    case round =>
     clear H c1
     obtain ⟨k,hkl,rfl,K⟩:=hrel
     by_cases hkt:k < rl
     ·
      have hkk:(k:Int) < (rl:Int):=by omega
      have hk0:(0:Int)≤(k:Int):=by omega
      have hkL:k < row.length:=by have:=HR.out.1; omega
      obtain ⟨b2,o2,rfl,hd⟩:=HI.out.at hkL
      have c2:=hd _ K.out.1
      have hm:=HM.out (row.getD k 0) (by rw [List.getD_eq_getElem?_getD,List.getElem?_eq_getElem hkL]; exact List.getElem_mem hkL)
      obtain ⟨x,hx⟩:=Int.eq_ofNat_of_zero_le hm.1
      have hxn:x < n:=by have:=HL.out.2.1; omega
      have hx64:x < 64:=by omega
      have HS:=hid (mS_step (n:=n) (show k < (P.getD i []).length by rw [← HR.out.2]; exact hkL) (show (P.getD i []).getD k 0 = (x:Int) by rw [← HR.out.2]; exact hx))
      rw [hx] at c2
      have kd:=K.out.1.drew
      have rd:=K.out.2.kept (Kept.refl wr).drew
      have cw:wr.drew.cell? ⟨g,i,none⟩ = some (.int .u64 ((wd n (mS P i k i):Nat):Int)):=rd.cell i _ (vrow_at hit)
      obtain ⟨y,hy⟩:∃ y,y = 2 ^ x:=⟨_,rfl⟩
      have HY:=hid hy
      have HOR:=hid (or_bit (by omega) hxn hy (mS P i k i))
      generalize hwd:wd n (mS P i k i) = z at cw HOR
      clear hd hm hx hy
      --%D
      go_upto_region 11 with fail
      refine region_z 8 (S:=fun w' => w'.cell? ⟨g,i,none⟩ = some (.int .u64 (z:Int))) (by kernel_rfl) cw (fun hHeld => ?_)
      have HQ:=hid (And.intro kd rd)
      clear kd rd cw c2 hwd K
      generalize wr.drew = Wd at HQ hHeld ⊢
      refine zk 0 hHeld ?_
      refine zk 1 hHeld ?_
      refine zk 2 hHeld ?_
      refine zk 3 hHeld ?_
      refine zk 4 hHeld ?_
      refine zr 5 fun K hK => ?_
      go_simp
      refine (bit_any x y _ hx64 HY.out).mono ?_
      rintro e w2 ⟨rfl,rfl⟩
      refine hK.out _ _ hHeld (fun hHeld => ?_)
      clear hK K
      go_simp
      --%E
      refine zk 6 hHeld ?_
      refine zk 7 hHeld ?_
      refine zl fun K hK => ?_
      have cw:=hHeld
      have fw:=HQ.out.2.fz i
      go_simp
      refine hK.out _ _ ?_
      refine zd ?_
      --%F
      have HQ2:=hid (And.intro (HQ.out.1.setCell (p:=⟨g,i,none⟩) HG.out (.int .u64 (bits .or .u64 (z:Int) (y:Int)))) (HQ.out.2.set i (.int .u64 (bits .or .u64 (z:Int) (y:Int)))))
      clear hHeld cw fw HQ
      go_wp2_with fail
      go_roundw
      case rel => exact ⟨k + 1,by omega,by go_num,HQ2.out.1,by rw [← HS.out]; have:=HQ2.out.2; rw [HOR.out] at this ⊢; exact this⟩
      case measure => show rl - ((k:Int) + 1).toNat < rl - (k:Int).toNat; omega
     ·
      have hkk:¬ (k:Int) < (rl:Int):=by omega
      have HE:=hid (show mS P i k = mS P (i + 1) 0 from mS_row (by rw [← HR.out.2,← HR.out.1]; omega))
      go_wp2_with fail
      go_roundw
      case rel => exact ⟨i + 1,by omega,by go_num,K.out.1,by rw [← HE.out]; exact K.out.2⟩
      case measure => show n - ((i:Int) + 1).toNat < n - (i:Int).toNat; omega
   ·
    have hii:¬ (i:Int) < (n:Int):=by omega
    have HE:=hid (show wrow n (mS P i 0) = wrow n (mP P) from wrow_congr fun j k hj _ => by unfold mS; rw [if_pos (by omega)])
    go_wp2_with fail
    go_ret2
    exact ⟨H.out.1,Or.inr ⟨HOK.out,g,HG.out,rfl,by rw [← HE.out]; exact H.out.2⟩⟩
end Sp
end Go.Proofs.YtdcgdpbgnijnpaaGreat

namespace Go.Proofs.YtdcgdpbgnijnpaaGreat
open Go.RowKit
open V (RowL RowL.alloc RowL.lt RowL.cell RowL.fz RowL.kept RowL.block RowL.set RowL.far)
namespace Sp
theorem and_bit {n x y:Nat} (hn:n≤64) (hx:x < n) (hy:y = 2 ^ x) (f:Nat→Bool):bits .and .u64 ((wd n f:Nat):Int) (y:Int) = if f x = true then (y:Int) else 0:=by
  rw [hy,bits_and_u64_nat _ _ (wd_u64 hn f) (Nat.pow_lt_pow_of_lt (a:=2) (n:=x) (m:=64) (by omega) (by omega)),wd_and1 f hx]
  split <;> rfl
theorem and_ne {n x y:Nat} (hn:n≤64) (hx:x < n) (hy:y = 2 ^ x) (f:Nat→Bool):(bits .and .u64 ((wd n f:Nat):Int) (y:Int) != 0) = f x∧(bits .and .u64 ((wd n f:Nat):Int) (y:Int) == 0) = !f x:=by
  have h0:(y:Int) ≠ 0:=by have:=Nat.two_pow_pos x; omega
  rw [and_bit hn hx hy]
  cases f x with
  | false => exact ⟨rfl,rfl⟩
  | true =>
    rw [if_pos rfl]
    refine ⟨by simpa using h0,by simpa using h0⟩
theorem cost_bounds (x y n:Nat) (hx:x≤n) (hy:y≤n) (hn:n≤48):-48≤((x:Int) - 1) * ((y:Int) - 1)∧((x:Int) - 1) * ((y:Int) - 1)≤2304:=by
  constructor
  · rcases Nat.eq_zero_or_pos x with h | h <;> rcases Nat.eq_zero_or_pos y with h' | h'
    · subst h h'; decide
    · subst h; omega
    · subst h'; omega
    · have:=Int.mul_nonneg (show (0:Int)≤(x:Int) - 1 by omega) (show (0:Int)≤(y:Int) - 1 by omega)
      omega
  · rcases Nat.eq_zero_or_pos x with h | h <;> rcases Nat.eq_zero_or_pos y with h' | h'
    · subst h h'; decide
    · subst h; omega
    · subst h'; omega
    · have:((x:Int) - 1) * ((y:Int) - 1)≤48 * 48:=Int.mul_le_mul (by omega) (by omega) (by omega) (by omega)
      omega
set_option maxRecDepth 100000 in
set_option maxHeartbeats 8000000 in
theorem shas_any (g n:Nat) (m:Nat→Nat→Bool) (r k:Int) (w:World) (h:RowL 99 w g (wrow n m)) (hn:n≤48) :
    Calls Tryz.prog 102 #[.slice (some ⟨g,0,none⟩) n n,.int .i64 r,.int .i64 k] w fun e w' => Kept w w'∧e = .returned (.bool (hasM n m r k)):=by
  have HL:=hid h
  obtain ⟨z,hz⟩:∃ z,z = hasM n m r k:=⟨_,rfl⟩
  rw [← hz]
  have HZ:=hid hz
  clear h hz
  have HKD:=hid (Kept.refl w).drew
  go_enter Tryz.func102,Tryz.ntmps102
  by_cases hin:0≤r∧r < (n:Int)∧0≤k∧k < (n:Int)
  · obtain ⟨h1,h2,h3,h4⟩:=hin
    obtain ⟨r,rfl⟩:=Int.eq_ofNat_of_zero_le h1
    obtain ⟨k,rfl⟩:=Int.eq_ofNat_of_zero_le h3
    have hkn:k < n:=by omega
    have hk64:k < 64:=by omega
    obtain ⟨y,hy⟩:∃ y,y = 2 ^ k:=⟨_,rfl⟩
    have HY:=hid hy
    have hA:=(and_ne (n:=n) (by omega) hkn hy (m r)).1
    have HE:=hid (show z = m r k by rw [HZ.out]; unfold hasM; rw [decide_eq_true h1,decide_eq_true h2,decide_eq_true h3,decide_eq_true h4]; rfl)
    have cw:w.drew.cell? ⟨g,r,none⟩ = some (.int .u64 ((wd n (m r):Nat):Int)):=(HL.out.kept HKD.out).cell r _ (vrow_at (by omega))
    generalize m r k = b at hA HE
    generalize wd n (m r) = x at cw hA
    clear hy
    go_upto_region 2 with fail
    --%A
    refine wp_region_held_drew (S:=fun w' => w'.cell? ⟨g,r,none⟩ = some (.int .u64 (x:Int))) (by kernel_rfl) cw (fun hHeld => ?_)
    clear cw
    generalize w.drew = Wd at HKD hHeld ⊢
    refine tk 0 hHeld ?_
    refine tk 1 hHeld ?_
    refine tk 2 hHeld ?_
    refine tk 3 hHeld ?_
    refine tk 4 hHeld ?_
    refine tk 5 hHeld ?_
    refine tk 6 hHeld ?_
    refine rdy 7 fun K hK => ?_
    go_simp
    refine (bit_any k y _ hk64 HY.out).mono ?_
    rintro e w2 ⟨rfl,rfl⟩
    refine hK.out _ _ hHeld (fun hHeld => ?_)
    clear hK K
    go_simp
    --%B
    refine tk 8 hHeld ?_
    refine tk 9 hHeld ?_
    refine tk 10 hHeld ?_
    refine tk 11 hHeld ?_
    refine _root_.Go.Proofs.YtdcgdpbgnijnpaaGreat.dn ?_
    clear hHeld
    --%C
    go_wp2_with fail
    go_ret
    exact ⟨HKD.out,by rw [HE.out]; rfl⟩
  · have HE:=hid (show z = false by
      rw [HZ.out]; unfold hasM
      by_cases h1:0≤r
      · by_cases h2:r < (n:Int)
        · by_cases h3:0≤k
          · have h4:¬ k < (n:Int):=fun h4 => hin ⟨h1,h2,h3,h4⟩
            rw [decide_eq_false h4]; simp
          · rw [decide_eq_false h3]; simp
        · rw [decide_eq_false h2]; simp
      · rw [decide_eq_false h1]; simp)
    have hC:¬ 0≤r ∨ (0≤r∧¬ r < (n:Int)) ∨ (0≤r∧r < (n:Int)∧¬ 0≤k) ∨ (0≤r∧r < (n:Int)∧0≤k∧¬ k < (n:Int)):=by omega
    clear hin
    rcases hC with h1 | ⟨h1,h2⟩ | ⟨h1,h2,h3⟩ | ⟨h1,h2,h3,h4⟩ <;>
      (go_upto_region 2 with fail
       refine wp_region_held_drew (S:=fun _ => True) (by kernel_rfl) trivial (fun hHeld => ?_)
       generalize w.drew = Wd at HKD ⊢
       refine tk 0 hHeld ?_
       refine tk 1 hHeld ?_
       refine sk 2 hHeld ?_
       refine sk 3 hHeld ?_
       refine sk 4 hHeld ?_
       refine sk 5 hHeld ?_
       refine sk 6 hHeld ?_
       refine sk 7 hHeld ?_
       refine sk 8 hHeld ?_
       refine sk 9 hHeld ?_
       refine tk 10 hHeld ?_
       refine tk 11 hHeld ?_
       refine _root_.Go.Proofs.YtdcgdpbgnijnpaaGreat.dn ?_
       clear hHeld
       go_wp2_with fail
       go_ret
       exact ⟨HKD.out,by rw [HE.out]; rfl⟩)
set_option maxRecDepth 100000 in
set_option maxHeartbeats 8000000 in
theorem scost_any (g n:Nat) (m:Nat→Nat→Bool) (r:Nat) (x:Nat) (w:World) (h:RowL 99 w g (wrow n m)) (hn:n≤48) (hr:r < n) (hx:x≤n) :
    Calls Tryz.prog 103 #[.slice (some ⟨g,0,none⟩) n n,.int .i64 (r:Int),.int .i64 (x:Int)] w fun e w' => w' = w∧e = .returned (.int .i64 (((rowL n m r).length - 1:Int) * ((x:Int) - 1))):=by
  have c1:w.cell? ⟨g,r,none⟩ = some (.int .u64 ((wd n (m r):Nat):Int)):=h.cell r _ (vrow_at hr)
  have HB:=hid (show bitsC (wd n (m r)) 64 = (rowL n m r).length from bitsC_wd (by omega) (m r))
  have hw:=wd_u64 (n:=n) (by omega) (m r)
  have hy:(rowL n m r).length≤n:=cnt_le (m r) n
  generalize (rowL n m r).length = y at HB hy ⊢
  generalize wd n (m r) = z at c1 HB hw
  have hri:(r:Int) < (n:Int):=by omega
  have hr0:(0:Int)≤(r:Int):=by omega
  have hb:=cost_bounds y x n hy hx hn
  clear h
  go_enter Tryz.func103,Tryz.ntmps103
  go_wp2_with fail
  refine (ones_any z _ hw).mono ?_
  rintro e w1 ⟨rfl,rfl⟩
  rw [HB.out]
  go_wp2_with fail
  go_ret
  exact ⟨rfl,rfl⟩
end Sp
end Go.Proofs.YtdcgdpbgnijnpaaGreat

namespace Go.Proofs.YtdcgdpbgnijnpaaGreat
open Go.RowKit
open V (RowL RowL.alloc RowL.lt RowL.cell RowL.fz RowL.kept RowL.block RowL.set RowL.far)
namespace Sp
def cntU (m:Nat→Nat→Bool) (i c:Nat):Nat:=((List.range i).filter fun r => m r c).length
def iv (x:Nat):Value:=.int .i64 (x:Int)
def hrow (n:Nat) (m:Nat→Nat→Bool) (i k:Nat):List Value:=vrow n fun c => iv (if c < k then cntU m (i + 1) c else cntU m i c)
theorem hrow_zero (n:Nat) (m:Nat→Nat→Bool):(vrow n fun _ => .int .i64 0) = hrow n m 0 0:=vrow_congr fun c _ => by rw [if_neg (by omega)]; rfl
theorem hrow_row (n:Nat) (m:Nat→Nat→Bool) (i:Nat):hrow n m i n = hrow n m (i + 1) 0:=vrow_congr fun c hc => by rw [if_pos hc,if_neg (by omega)]
theorem cntU_step (m:Nat→Nat→Bool) (i c:Nat):cntU m (i + 1) c = cntU m i c + (if m i c = true then 1 else 0):=cnt_succ (fun r => m r c) i
theorem hrow_not {n:Nat} {m:Nat→Nat→Bool} {i k:Nat} (h:m i k = false):hrow n m i k = hrow n m i (k + 1):=vrow_congr fun c hc => by
 by_cases e:c = k
 ·
  rw [e,if_neg (by omega),if_pos (by omega),cntU_step,h]; rfl
 ·
  by_cases e2:c < k
  ·
   rw [if_pos e2,if_pos (by omega)]
  ·
   rw [if_neg e2,if_neg (by omega)]
theorem hrow_yes {n:Nat} {m:Nat→Nat→Bool} {i k:Nat} (h:m i k = true):(hrow n m i k).set k (iv (cntU m i k + 1)) = hrow n m i (k + 1):=by
 unfold hrow
 rw [vrow_set]
 refine vrow_congr fun c hc => ?_
 by_cases e:c = k
 ·
  rw [if_pos e,e,if_pos (by omega),cntU_step,h]; rfl
 ·
  rw [if_neg e]
  by_cases e2:c < k
  ·
   rw [if_pos e2,if_pos (by omega)]
  ·
   rw [if_neg e2,if_neg (by omega)]
set_option maxRecDepth 100000 in
set_option maxHeartbeats 8000000 in
theorem heights_any (g n:Nat) (m:Nat→Nat→Bool) (w:World) (h:RowL 99 w g (wrow n m)) (hn:n≤48) :
  Calls Tryz.prog 101 #[.slice (some ⟨g,0,none⟩) n n] w fun e w' => Kept w w'∧∃ q,w.heap.size≤q∧e = .returned (.slice (some ⟨q,0,none⟩) n n)∧RowL 3 w' q (vrow n fun c => iv (colL n m c).length):=by
 have hmk:=make_ints (n:=n) (by omega)
 have HL:=hid h
 clear h
 have kA:=(Kept.refl w).alloc (.cells (vrow n fun _ => .int .i64 0).toArray 3)
 have rA:=RowL.alloc 3 w (vrow n fun _ => .int .i64 0)
 go_enter Tryz.func101,Tryz.ntmps101
 go_upto_region 2 with fail
 --%A
 generalize w.alloc (.cells (vrow n fun _ => .int .i64 0).toArray 3) = W at kA rA ⊢
 obtain ⟨q,hq⟩:∃ q,q = w.heap.size:=⟨_,rfl⟩
 rw [← hq] at rA ⊢
 have HG:=hid (show w.heap.size≤q by rw [hq]; exact Nat.le_refl _)
 have HQ:=hid (And.intro kA (show RowL 3 W q (hrow n m 0 0) by rw [← hrow_zero]; exact rA))
 clear kA rA hq
 go_wp2_with fail
 go_loopw [12] (fun v12 wr => ∃ (i:Nat),i≤n∧v12 = .int .i64 (i:Int)∧Hid (Kept w wr∧RowL 3 wr q (hrow n m i 0))) (fun v12 _ => n - (intOf v12).toNat)
 case atStart => exact ⟨0,Nat.zero_le _,rfl,HQ.out⟩
 case round =>
  clear HQ
  obtain ⟨i,hil,rfl,H⟩:=hrel
  by_cases hit:i < n
  ·
   have hii:(i:Int) < (n:Int):=by omega
   have hi0:(0:Int)≤(i:Int):=by omega
   have c1:wr.cell? ⟨g,i,none⟩ = some (.int .u64 ((wd n (m i):Nat):Int)):=(HL.out.kept H.out.1).cell i _ (vrow_at hit)
   obtain ⟨z,hz⟩:∃ z,z = wd n (m i):=⟨_,rfl⟩
   rw [← hz] at c1
   have HZ:=hid hz
   clear hz
   go_wp2_with fail
   --%B
   go_loopw [18] (fun v18 wr => ∃ (k:Nat),k≤n∧v18 = .int .i64 (k:Int)∧Hid (Kept w wr∧RowL 3 wr q (hrow n m i k))) (fun v18 _ => n - (intOf v18).toNat)
   case atStart => exact ⟨0,Nat.zero_le _,rfl,H.out⟩
   case round =>
    clear H c1
    obtain ⟨k,hkl,rfl,K⟩:=hrel
    by_cases hkt:k < n
    ·
     have hkk:(k:Int) < (n:Int):=by omega
     have hk0:(0:Int)≤(k:Int):=by omega
     have hk64:k < 64:=by omega
     obtain ⟨y,hy⟩:∃ y,y = 2 ^ k:=⟨_,rfl⟩
     have hA:=(and_ne (n:=n) (by omega) hkt hy (m i)).1
     rw [← HZ.out] at hA
     have HY:=hid hy
     clear hy
     go_wp2_with fail
     refine (bit_any k y _ hk64 HY.out).mono ?_
     rintro e w2 ⟨rfl,rfl⟩
     --%C
     cases hm:m i k with
     | false =>
      rw [hm] at hA
      have HE:=hid (hrow_not (n:=n) hm)
      clear hm
      go_wp2_with fail
      go_roundw
      case rel => exact ⟨k + 1,by omega,by go_num,K.out.1,by rw [← HE.out]; exact K.out.2⟩
      case measure => show n - ((k:Int) + 1).toNat < n - (k:Int).toNat; omega
     | true =>
      rw [hm] at hA
      have HE:=hid (hrow_yes (n:=n) hm)
      have c0:w2.cell? ⟨q,k,none⟩ = some (iv (cntU m i k)):=by
       have:=K.out.2.cell k _ (vrow_at hkt)
       rw [if_neg (Nat.lt_irrefl _)] at this
       exact this
      have f2:=K.out.2.fz k
      have hx:cntU m i k≤i:=cnt_le _ _
      have HS:=hid (And.intro (K.out.1.setCell (p:=⟨q,k,none⟩) HG.out (iv (cntU m i k + 1))) (K.out.2.set k (iv (cntU m i k + 1))))
      generalize cntU m i k = x at c0 hx HS HE
      have c2:w2.cell? ⟨q,k,none⟩ = some (.int .i64 (x:Int)):=c0
      clear c0
      have HS:=hid (show Kept w (w2.setCell ⟨q,k,none⟩ (.int .i64 ((x:Int) + 1)))∧RowL 3 (w2.setCell ⟨q,k,none⟩ (.int .i64 ((x:Int) + 1))) q (hrow n m i (k + 1)) by rw [← HE.out]; exact HS.out)
      clear hm HE
      --%D
      go_wp2_with fail
      go_roundw
      case rel => exact ⟨k + 1,by omega,by go_num,HS.out⟩
      case measure => show n - ((k:Int) + 1).toNat < n - (k:Int).toNat; omega
    ·
     have hkk:¬ (k:Int) < (n:Int):=by omega
     obtain rfl:k = n:=by omega
     have HE:=hid (hrow_row k m i)
     go_wp2_with fail
     go_roundw
     case rel => exact ⟨i + 1,by omega,by go_num,K.out.1,by rw [← HE.out]; exact K.out.2⟩
     case measure => show k - ((i:Int) + 1).toNat < k - (i:Int).toNat; omega
  ·
   have hii:¬ (i:Int) < (n:Int):=by omega
   obtain rfl:i = n:=by omega
   go_wp2_with fail
   go_ret
   exact ⟨H.out.1,q,HG.out,rfl,by have:=H.out.2; rw [show hrow i m i 0 = vrow i fun c => iv (colL i m c).length from vrow_congr fun c _ => by rw [if_neg (by omega)]; rfl] at this; exact this⟩
def lO (n:Nat) (m:Nat→Nat→Bool) (o:Option (Nat × Nat)):Int:=match o with | none => 0 | some q => cost n m q.1 q.2
set_option maxRecDepth 100000 in
set_option maxHeartbeats 8000000 in
theorem sbest_any (g n:Nat) (m:Nat→Nat→Bool) (w:World) (h:RowL 99 w g (wrow n m)) (hn:n≤48) :
  Calls Tryz.prog 81 #[.slice (some ⟨g,0,none⟩) n n] w fun e w' => Kept w w'∧e = .returned (.tuple #[.int .i64 (rO (bestOf n m):Int),.int .i64 (cO (bestOf n m):Int),.bool (bestOf n m).isSome]):=by
 have HL:=hid h
 obtain ⟨z,hz⟩:∃ z,z = bestOf n m:=⟨_,rfl⟩
 rw [← hz]
 have HZ:=hid (show bestUp n m n 0 = z by rw [bestUp_all,hz])
 clear h hz
 go_enter Tryz.func81,Tryz.ntmps81
 go_wp2_with fail
 refine (heights_any g n m _ HL.out hn).mono ?_
 rintro e w1 ⟨hk,q,hq,rfl,hH⟩
 have HK:=hid (And.intro hk hH)
 clear hk hH hq
 go_wp2_with fail
 --%A
 go_loopw [2,3,4,5,15] (fun v2 v3 v4 v5 v15 wr => ∃ (i:Nat) (o:Option (Nat × Nat)),i≤n∧v2 = .int .i64 (rO o:Int)∧v3 = .int .i64 (cO o:Int)∧v4 = .bool o.isSome∧v5 = .int .i64 (lO n m o)∧v15 = .int .i64 (i:Int)∧Hid (Kept w1 wr∧o = bestUp n m i 0)) (fun _ _ _ _ v15 _ => n - (intOf v15).toNat)
 case atStart => exact ⟨0,none,Nat.zero_le _,rfl,rfl,rfl,rfl,rfl,Kept.refl _,rfl⟩
 case round =>
  obtain ⟨i,o,hil,rfl,rfl,rfl,rfl,rfl,H⟩:=hrel
  by_cases hit:i < n
  ·
   have hii:(i:Int) < (n:Int):=by omega
   have hi0:(0:Int)≤(i:Int):=by omega
   go_wp2_with fail
   go_loopw [2,3,4,5,20] (fun v2 v3 v4 v5 v20 wr => ∃ (k:Nat) (o:Option (Nat × Nat)),k≤n∧v2 = .int .i64 (rO o:Int)∧v3 = .int .i64 (cO o:Int)∧v4 = .bool o.isSome∧v5 = .int .i64 (lO n m o)∧v20 = .int .i64 (k:Int)∧Hid (Kept w1 wr∧o = bestUp n m i k)) (fun _ _ _ _ v20 _ => n - (intOf v20).toNat)
   case atStart => exact ⟨0,o,Nat.zero_le _,rfl,rfl,rfl,rfl,rfl,H.out.1,H.out.2⟩
   case round =>
    clear H
    obtain ⟨k,o,hkl,rfl,rfl,rfl,rfl,rfl,H⟩:=hrel
    by_cases hkt:k < n
    ·
     have hkk:(k:Int) < (n:Int):=by omega
     have hk0:(0:Int)≤(k:Int):=by omega
     have c1:wr.cell? ⟨q,k,none⟩ = some (.int .i64 ((colL n m k).length:Int)):=(HK.out.2.kept H.out.1).cell k _ (vrow_at hkt)
     have hcl:(colL n m k).length≤n:=cnt_le _ _
     have HC:=hid (show cost n m i k = ((rowL n m i).length - 1:Int) * ((colL n m k).length - 1:Int) from rfl)
     generalize (colL n m k).length = hc at c1 hcl HC
     have HS:=hid (show bestUp n m i (k + 1) = less n m o (i,k) by rw [bestUp_step,← H.out.2])
     have HM:=hid (show hasM n m (i:Int) (k:Int) = m i k by unfold hasM; rw [decide_eq_true hi0,decide_eq_true hii,decide_eq_true hk0,decide_eq_true hkk]; rfl)
     --%B
     go_wp2_with fail
     refine (shas_any g n m (i:Int) (k:Int) _ ((HL.out.kept HK.out.1).kept H.out.1) hn).mono ?_
     rintro e w2 ⟨hk2,rfl⟩
     have H2:=hid (show Kept w1 w2 from H.out.1.trans hk2)
     rw [HM.out]
     clear hk2 c1 H
     --%C
     cases hm:m i k with
     | false =>
      have HE:=hid (show o = bestUp n m i (k + 1) by rw [HS.out]; unfold less; rw [if_neg (by rw [hm]; decide)])
      clear hm
      go_wp2_with fail
      go_roundw
      case rel => exact ⟨k + 1,o,by omega,rfl,rfl,rfl,rfl,by go_num,H2.out,HE.out⟩
      case measure => show n - ((k:Int) + 1).toNat < n - (k:Int).toNat; omega
     | true =>
      go_wp2_with fail
      refine (scost_any g n m i hc _ ((HL.out.kept HK.out.1).kept H2.out) hn hit hcl).mono ?_
      rintro e w3 ⟨rfl,rfl⟩
      rw [← HC.out]
      --%D
      cases o with
      | none =>
       have HE:=hid (show some (i,k) = bestUp n m i (k + 1) by rw [HS.out]; unfold less; rw [if_pos hm])
       have HX:=hid (show cost n m i k = lO n m (some (i,k)) from rfl)
       generalize cost n m i k = x at HX
       clear hm
       go_wp2_with fail
       go_roundw
       case rel => exact ⟨k + 1,some (i,k),by omega,rfl,rfl,rfl,by rw [← HX.out],by go_num,H2.out,HE.out⟩
       case measure => show n - ((k:Int) + 1).toNat < n - (k:Int).toNat; omega
      | some p =>
       obtain ⟨qr,qc⟩:=p
       have HE:=hid (show (if cost n m i k < cost n m qr qc then some (i,k) else some (qr,qc)) = bestUp n m i (k + 1) by rw [HS.out]; unfold less; rw [if_pos hm])
       have HX:=hid (show cost n m i k = lO n m (some (i,k)) from rfl)
       have HY:=hid (show cost n m qr qc = lO n m (some (qr,qc)) from rfl)
       clear hm HS HC
       generalize cost n m i k = x at HX HE
       generalize cost n m qr qc = y at HY HE
       rw [← HY.out]
       --%E
       by_cases hxy:x < y
       ·
        have HE:=hid (show some (i,k) = bestUp n m i (k + 1) by rw [← HE.out,if_pos hxy])
        go_wp2_with fail
        go_roundw
        case rel => exact ⟨k + 1,some (i,k),by omega,rfl,rfl,rfl,by rw [← HX.out],by go_num,H2.out,HE.out⟩
        case measure => show n - ((k:Int) + 1).toNat < n - (k:Int).toNat; omega
       ·
        have HE:=hid (show some (qr,qc) = bestUp n m i (k + 1) by rw [← HE.out,if_neg hxy])
        go_wp2_with fail
        go_roundw
        case rel => exact ⟨k + 1,some (qr,qc),by omega,rfl,rfl,rfl,by rw [← HY.out],by go_num,H2.out,HE.out⟩
        case measure => show n - ((k:Int) + 1).toNat < n - (k:Int).toNat; omega
    ·
     have hkk:¬ (k:Int) < (n:Int):=by omega
     obtain rfl:k = n:=by omega
     have HE:=hid (show o = bestUp k m (i + 1) 0 by rw [bestUp_row]; exact H.out.2)
     go_wp2_with fail
     go_roundw
     case rel => exact ⟨i + 1,o,by omega,rfl,rfl,rfl,rfl,by go_num,H.out.1,HE.out⟩
     case measure => show k - ((i:Int) + 1).toNat < k - (i:Int).toNat; omega
  ·
   have hii:¬ (i:Int) < (n:Int):=by omega
   obtain rfl:i = n:=by omega
   have HE:=hid (show o = z by rw [H.out.2,HZ.out])
   go_wp2_with fail
   go_ret3
   exact ⟨HK.out.1.trans H.out.1,by rw [HE.out]; rfl⟩
end Sp
end Go.Proofs.YtdcgdpbgnijnpaaGreat

namespace Go.Proofs.YtdcgdpbgnijnpaaGreat
open Go.RowKit
open V (RowL RowL.alloc RowL.lt RowL.cell RowL.fz RowL.kept RowL.block RowL.set RowL.far)
namespace Sp
def eS (m:Nat→Nat→Bool) (r c i:Nat):Nat→Nat→Bool:=fun j k => if j = r then false else if j < i then elim m r c j k else m j k
structure Only (g:Nat) (w w':World):Prop where
 kept:∀ w0,Kept w0 w→w0.heap.size≤g→Kept w0 w'
 block:∀ b,b ≠ g→w'.heap[b]? = w.heap[b]?
theorem only_refl (g:Nat) (w:World):Only g w w:=⟨fun _ k _ => k,fun _ _ => rfl⟩
theorem Only.set {g:Nat} {w w':World} (h:Only g w w') (i:Nat) (v:Value):Only g w (w'.setCell ⟨g,i,none⟩ v) :=
 ⟨fun w0 k hg => (h.kept w0 k hg).setCell (p:=⟨g,i,none⟩) hg v,fun b hb => by
  rw [← h.block b hb]
  simp only [World.setCell,Array.getElem?_modify]
  rw [if_neg (fun e => hb e.symm)]⟩
theorem Only.row {g p:Nat} {t:TypeId} {w w':World} {xs:List Value} (h:Only g w w') (hr:RowL t w p xs) (hne:p ≠ g):RowL t w' p xs:=hr.block (h.block p hne)
end Sp
end Go.Proofs.YtdcgdpbgnijnpaaGreat

namespace Go.Proofs.YtdcgdpbgnijnpaaGreat
open Go.RowKit
open V (RowL RowL.alloc RowL.lt RowL.cell RowL.fz RowL.kept RowL.block RowL.set RowL.far)
namespace Sp
end Sp
end Go.Proofs.YtdcgdpbgnijnpaaGreat

namespace Go.Proofs.YtdcgdpbgnijnpaaGreat
open Go.RowKit
open V (RowL RowL.alloc RowL.lt RowL.cell RowL.fz RowL.kept RowL.block RowL.set RowL.far)
namespace Sp
set_option maxRecDepth 100000 in
set_option maxHeartbeats 8000000 in
theorem sp_best (ao:Option Addr) (n c:Nat) (P:List (List Int)) (w:World) (h:PatR w (.slice ao n c) P) (hn:n≤1000000) (hr:∀ l ∈ P,l.length≤1000000) :
  Calls Tryz.prog 48 #[.slice ao n c] w fun e w' => Kept w w'∧e = .returned (.tuple #[.int .i64 (rO (bestS P):Int),.int .i64 (cO (bestS P):Int),.bool (bestS P).isSome,.int .i64 (chkP P)]):=by
 have hl:=h.len
 have HL:=hid (And.intro h (And.intro hl hr))
 obtain ⟨x,hx⟩:∃ x,x = bestS P:=⟨_,rfl⟩
 obtain ⟨y,hy⟩:∃ y,y = chkP P:=⟨_,rfl⟩
 rw [← hx,← hy]
 have HZ:=hid (And.intro hx hy)
 clear h hl hr hx hy
 go_enter Tryz.func48,Tryz.ntmps48
 go_wp2_with fail
 refine (sheetOf_any ao n c P _ HL.out.1 hn HL.out.2.2).mono ?_
 rintro e w1 ⟨hk,⟨hok,rfl⟩ | ⟨hok,g,hg,rfl,hS⟩⟩
 ·
  have HK:=hid hk
  have hc:chkP P = 130:=by unfold chkP; rw [if_neg (by rw [hok]; decide)]
  have HE:=hid (show x = none∧y = 130 by rw [HZ.out.1,HZ.out.2,hc]; unfold bestS; rw [if_neg (by rw [hok]; decide)]; exact ⟨rfl,rfl⟩)
  clear hk hok hc
  go_wp2_with fail
  exact bodyPost_ret (v:=.tuple #[.int .i64 0,.int .i64 0,.bool false,.int .i64 130]) (by simp [results,Tryz.results48,go_sem]) rfl ⟨HK.out,by rw [HE.out.1,HE.out.2]; rfl⟩
 ·
  have HK:=hid hk
  have HS:=hid hS
  have hn48:n≤48:=by have:=okP_len hok; have:=HL.out.2.1; omega
  have hc:chkP P = 0:=by unfold chkP; rw [if_pos hok]
  have HE:=hid (show x = bestOf n (mP P)∧y = 0 by rw [HZ.out.1,HZ.out.2,hc]; unfold bestS; rw [if_pos hok,← HL.out.2.1]; exact ⟨rfl,rfl⟩)
  clear hk hok hc hS hg
  go_wp2_with fail
  refine (sbest_any g n (mP P) _ HS.out hn48).mono ?_
  rintro e w3 ⟨hk,rfl⟩
  have HK:=hid (HK.out.trans hk)
  clear hk
  generalize bestOf n (mP P) = o at HE
  go_wp2_with fail
  exact bodyPost_ret (v:=.tuple #[.int .i64 (rO o:Int),.int .i64 (cO o:Int),.bool o.isSome,.int .i64 0]) (by simp [results,Tryz.results48,go_sem]) rfl ⟨HK.out,by rw [HE.out.1,HE.out.2]⟩
end Sp
end Go.Proofs.YtdcgdpbgnijnpaaGreat

namespace Go.Proofs.YtdcgdpbgnijnpaaGreat
open Go.RowKit
open V (RowL RowL.alloc RowL.lt RowL.cell RowL.fz RowL.kept RowL.block RowL.set RowL.far)
namespace Sp
structure OrdS (B n g:Nat) (m0:Nat→Nat→Bool) (w:World) (rv cv:Value) (dn:List (Nat × Nat)) (cur:Nat→Nat→Bool) (j:Nat):Prop where
 rows:OwnI B w rv (fstI dn)
 cols:OwnI B w cv (sndI dn)
 apart:∀ b,rv.ownBlock = some b→cv.ownBlock ≠ some b
 mat:RowL 99 w g (wrow n cur)
 all:orderL n n m0 = dn ++ orderL n j cur
 enough:(live n cur).length≤j
 short:dn.length + (live n cur).length≤n
end Sp
end Go.Proofs.YtdcgdpbgnijnpaaGreat

namespace Go.Proofs.YtdcgdpbgnijnpaaGreat
open Go.RowKit
open V (RowL RowL.alloc RowL.lt RowL.cell RowL.fz RowL.kept RowL.block RowL.set RowL.far)
namespace Sp
def pA:List (List Int):=[[0,1,2],[0,1],[0,2]]
end Sp
end Go.Proofs.YtdcgdpbgnijnpaaGreat

namespace Go.Proofs.YtdcgdpbgnijnpaaGreat
open Go.RowKit
open V (RowL RowL.alloc RowL.lt RowL.cell RowL.fz RowL.kept RowL.block RowL.set RowL.far)
namespace Sp
def WideIs (e:Ending) (n:Nat) (P:List (List Int)):Prop:=∃ b,e = .returned (.bool b)∧(b = false→n≤61∧∀ l ∈ P,l.length≤60)
def cntP (P:List (List Int)) (i:Nat):Nat:=((P.take i).map List.length).sum
theorem mP_true {P:List (List Int)} {i:Nat} {x:Nat}:mP P i x = true ↔ (x:Int) ∈ P.getD i []:=by
 unfold mP
 rw [decide_eq_true_eq]
end Sp
end Go.Proofs.YtdcgdpbgnijnpaaGreat

namespace Go.Proofs.YtdcgdpbgnijnpaaGreat
namespace Sp
theorem thinP_at {n i k:Nat} {m:Nat→Nat→Bool} (h:i < k):(thinP n m k).getD i [] = thinR m i n:=by
 unfold thinP
 rw [List.getD_eq_getElem?_getD,List.getElem?_map,List.getElem?_range h]
 rfl
theorem mP_thin {n i k:Nat} {m:Nat→Nat→Bool} (hi:i < n) (hk:k < n):mP (thinP n m n) i k = m i k:=by
 rw [Bool.eq_iff_iff,mP_true,thinP_at hi]
 unfold thinR
 rw [List.mem_map]
 constructor
 ·
  rintro ⟨x,hx,e⟩
  have e:x = k:=Int.ofNat.inj e
  subst e
  exact (List.mem_filter.1 hx).2
 ·
  intro h
  exact ⟨k,List.mem_filter.2 ⟨List.mem_range.2 hk,h⟩,rfl⟩
theorem rowOk_sorted {n:Nat}:∀ {l:List Nat} {last:Int},l.Pairwise (· < ·)→(∀ x ∈ l,last < (x:Int)∧x < n)→rowOk n last (l.map Int.ofNat) = true:=by
 intro l
 induction l with
 | nil => intro last _ _; rfl
 | cons x t ih =>
  intro last hp h
  have h1:=h x (List.mem_cons_self ..)
  rw [List.pairwise_cons] at hp
  show ((decide (last < (x:Int)) && decide ((x:Int) < (n:Int))) && rowOk n (x:Int) (t.map Int.ofNat)) = true
  rw [decide_eq_true h1.1,decide_eq_true (by omega),ih hp.2 (fun y hy => ⟨by have:=hp.1 y hy; omega,(h y (List.mem_cons_of_mem _ hy)).2⟩)]
  rfl
theorem okP_thin {n:Nat} {m:Nat→Nat→Bool} (hn:n≤48):okP (thinP n m n) = true:=by
 unfold okP
 rw [thinP_len,decide_eq_true hn,Bool.true_and,List.all_eq_true]
 intro l hl
 unfold thinP at hl
 obtain ⟨i,_,rfl⟩:=List.mem_map.1 hl
 unfold thinR
 refine rowOk_sorted (List.Pairwise.filter _ List.pairwise_lt_range) (fun x hx => ?_)
 have:=List.mem_range.1 (List.mem_filter.1 hx).1
 exact ⟨by omega,this⟩
def toI (l:List (Nat × Nat)):List (Int × Int):=l.map fun q => ((q.1:Int),(q.2:Int))
end Sp
end Go.Proofs.YtdcgdpbgnijnpaaGreat

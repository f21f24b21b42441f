/- Sheets in memory; sparse.rise, Check. sparse.sheetOf. sparse's sheets: has, heights, cost. sparse's sheets: heights, best. sparse's sheets: eliminate. sparse's sheets: pattern. The program's contracts: sparse.Cost, Best, Eliminate. The program's contracts: sparse.Order, Fill. shuntref09.Ints of equal lists; rows that a literal makes; shuntlaw13.awake. -/
import Derived.Test.YtojbncpifpghgaaSw2
import Derived.Test.YtojbncpifpghgaaGam
import Derived.Test.YtojbncpifpghgaaGag
namespace Go.Proofs.Ytojbncpifpghgaa
open Go.RowKit
open V (RowL RowL.alloc RowL.lt RowL.cell RowL.fz RowL.kept RowL.block RowL.set RowL.far)
namespace Sp
def vrow (n:Nat) (f:Nat→Value):List Value:=(List.range n).map f
theorem vrow_len (n:Nat) (f:Nat→Value):(vrow n f).length = n:=by unfold vrow; simp
theorem vrow_at {n k:Nat} {f:Nat→Value} (h:k < n):(vrow n f)[k]? = some (f k):=by
 unfold vrow
 rw [List.getElem?_map,List.getElem?_range h]
 rfl
theorem vrow_congr {n:Nat} {f g:Nat→Value} (h:∀ j,j < n→f j = g j):vrow n f = vrow n g:=by
 unfold vrow
 exact List.map_congr_left fun j hj => h j (List.mem_range.1 hj)
theorem vrow_set {n k:Nat} {f:Nat→Value} (v:Value):(vrow n f).set k v = vrow n (fun j => if j = k then v else f j):=by
 apply List.ext_getElem?
 intro j
 by_cases hj:j < n
 ·
  rw [vrow_at hj]
  by_cases e:j = k
  ·
   subst e
   rw [List.getElem?_set_self (by rw [vrow_len]; exact hj),if_pos rfl]
  ·
   rw [List.getElem?_set_ne (fun h => e h.symm),vrow_at hj,if_neg e]
 ·
  rw [List.getElem?_eq_none (by rw [List.length_set,vrow_len]; omega),List.getElem?_eq_none (by rw [vrow_len]; omega)]
def wv (n:Nat) (f:Nat→Bool):Value:=.int .u64 ((wd n f:Nat):Int)
def wrow (n:Nat) (m:Nat→Nat→Bool):List Value:=vrow n fun i => wv n (m i)
theorem wrow_congr {n:Nat} {m m':Nat→Nat→Bool} (h:∀ i k,i < n→k < n→m i k = m' i k):wrow n m = wrow n m':=vrow_congr fun i hi => by unfold wv; rw [wd_congr fun k hk => h i k hi hk]
theorem wrow_set {n i:Nat} {m m':Nat→Nat→Bool} {f:Nat→Bool} (h1:∀ k,k < n→f k = m' i k) (h2:∀ j k,j < n→k < n→j ≠ i→m j k = m' j k):(wrow n m).set i (wv n f) = wrow n m':=by
 unfold wrow
 rw [vrow_set]
 refine vrow_congr fun j hj => ?_
 by_cases e:j = i
 ·
  rw [if_pos e,e]; unfold wv; rw [wd_congr h1]
 ·
  rw [if_neg e]; unfold wv; rw [wd_congr fun k hk => h2 j k hj hk e]
theorem made_row (x:Value) (hx:x.cells = #[x]) (n:Nat):madeCells x.cells (n * 1) = (vrow n fun _ => x).toArray:=by
 apply Array.ext
 ·
  simp [madeCells,vrow,hx]
 ·
  intro i h1 h2
  simp [madeCells,vrow,hx,Nat.mod_one]
set_option maxRecDepth 100000 in
set_option maxHeartbeats 8000000 in
theorem rise_any (ra:Option Addr) (rl rc n:Nat) (row:List Int) (w:World) (h:ISl w (.slice ra rl rc) row) (hr:rl≤1000000) (hn:n≤1000000) :
  Calls Try.prog 17 #[.slice ra rl rc,.int .i64 (n:Int)] w fun e w' => w' = w∧e = .returned (.bool (rowOk n (-1) row)):=by
 have hl:=h.len
 have HL:=hid (And.intro h hl)
 obtain ⟨z,hz⟩:∃ z,z = rowOk n (-1) row:=⟨_,rfl⟩
 have HZ:=hid hz
 rw [← hz]
 clear h hl hz
 go_enter Try.func17,Try.ntmps17
 go_wp2_with fail
 go_loopw [5,10] (fun v5 v10 wr => ∃ (k:Nat) (x:Int),k≤rl∧0≤x∧x≤(n:Int)∧v5 = .int .i64 x∧v10 = .int .i64 (k:Int)∧wr = w∧Hid (z = rowOk n (x - 1) (row.drop k))) (fun _ v10 _ => rl - (intOf v10).toNat)
 case atStart => exact ⟨0,0,Nat.zero_le _,Int.le_refl _,Int.natCast_nonneg _,rfl,rfl,rfl,HZ.out⟩
 case round =>
  clear HZ
  obtain ⟨k,x,hkl,hx0,hxn,rfl,rfl,rfl,H⟩:=hrel
  by_cases hkt:k < rl
  ·
   have hkk:(k:Int) < (rl:Int):=by omega
   have hk0:(0:Int)≤(k:Int):=by omega
   have hkL:k < row.length:=by have:=HL.out.2; omega
   obtain ⟨b2,o2,rfl,hd⟩:=HL.out.1.at hkL
   have c2:=hd _ (Kept.refl _)
   have H:=hid (show z = ((decide (x - 1 < row.getD k 0) && decide (row.getD k 0 < (n:Int))) && rowOk n (row.getD k 0) (row.drop (k + 1))) by rw [← rowOk_at hkL]; exact H.out)
   clear hd
   generalize row.getD k 0 = y at c2 H
   --%C
   by_cases e1:y < x
   ·
    have HE:=hid (show z = false by rw [H.out,decide_eq_false (show ¬ x - 1 < y by omega)]; rfl)
    go_wp2_with fail
    go_ret
    exact ⟨rfl,by rw [HE.out]; rfl⟩
   ·
    by_cases e2:(n:Int)≤y
    ·
     have HE:=hid (show z = false by rw [H.out,decide_eq_false (show ¬ y < (n:Int) by omega),Bool.and_false]; rfl)
     go_wp2_with fail
     go_ret
     exact ⟨rfl,by rw [HE.out]; rfl⟩
    ·
     have HE:=hid (show z = rowOk n (y + 1 - 1) (row.drop (k + 1)) by rw [H.out,decide_eq_true (show x - 1 < y by omega),decide_eq_true (show y < (n:Int) by omega),Bool.true_and,Bool.true_and,Int.add_sub_cancel])
     go_wp2_with fail
     --%D
     go_roundw
     case rel => exact ⟨k + 1,y + 1,by omega,by omega,by omega,by go_num,by go_num,by first | rfl | trivial,HE.out⟩
     case measure => show rl - ((k:Int) + 1).toNat < rl - (k:Int).toNat; omega
  ·
   have hkk:¬ (k:Int) < (rl:Int):=by omega
   have HE:=hid (show z = true by rw [H.out,List.drop_eq_nil_of_le (by have:=HL.out.2; omega)]; rfl)
   go_wp2_with fail
   go_ret
   exact ⟨rfl,by rw [HE.out]; rfl⟩
set_option maxRecDepth 100000 in
set_option maxHeartbeats 8000000 in
theorem sp_check (ao:Option Addr) (n c:Nat) (P:List (List Int)) (w:World) (h:PatR w (.slice ao n c) P) (hn:n≤1000000) (hr:∀ l ∈ P,l.length≤1000000) :
  Calls Try.prog 8 #[.slice ao n c] w fun e w' => Kept w w'∧e = .returned (.int .i64 (chkP P)):=by
 have hl:=h.len
 have HL:=hid (And.intro h (And.intro hl hr))
 obtain ⟨z,hz⟩:∃ z,z = chkP P:=⟨_,rfl⟩
 have HZ:=hid (show z = if (decide (n≤48) && P.all (rowOk n (-1))) = true then 0 else 130 by rw [hz,hl]; rfl)
 rw [← hz]
 clear h hl hr hz
 go_enter Try.func8,Try.ntmps8
 by_cases h48:48 < n
 ·
  have h1:(48:Int) < (n:Int):=by omega
  have HE:=hid (show z = 130 by rw [HZ.out,decide_eq_false (by omega)]; rfl)
  go_wp2_with fail
  go_ret
  exact ⟨Kept.refl w,by rw [HE.out]; rfl⟩
 ·
  have h1:¬ (48:Int) < (n:Int):=by omega
  have HZ:=hid (show z = if P.all (rowOk n (-1)) = true then 0 else 130 by rw [HZ.out,decide_eq_true (by omega),Bool.true_and])
  go_wp2_with fail
  --%A
  go_loopw [10] (fun v10 wr => ∃ (i:Nat),i≤n∧v10 = .int .i64 (i:Int)∧wr = w∧Hid (z = if (P.drop i).all (rowOk n (-1)) = true then 0 else 130)) (fun v10 _ => n - (intOf v10).toNat)
  case atStart => exact ⟨0,Nat.zero_le _,rfl,rfl,HZ.out⟩
  case round =>
   clear HZ
   obtain ⟨i,hil,rfl,rfl,H⟩:=hrel
   by_cases hit:i < n
   ·
    have hii:(i:Int) < (n:Int):=by omega
    have hi0:(0:Int)≤(i:Int):=by omega
    have hiL:i < P.length:=by have:=HL.out.2.1; omega
    obtain ⟨b,off,rfl,ra,rc,hc,hI⟩:=HL.out.1.row hiL
    have c1:=hc _ (Kept.refl _)
    have HI:=hid hI
    have hlen:(P.getD i []).length≤1000000:=HL.out.2.2 _ (by rw [List.getD_eq_getElem?_getD,List.getElem?_eq_getElem hiL]; exact List.getElem_mem hiL)
    have H:=hid (show z = if (rowOk n (-1) (P.getD i []) && (P.drop (i + 1)).all (rowOk n (-1))) = true then 0 else 130 by rw [← all_at hiL]; exact H.out)
    generalize P.getD i [] = row at c1 HI hlen H
    obtain ⟨rl,hrl⟩:∃ r,r = row.length:=⟨_,rfl⟩
    rw [← hrl] at c1 HI hlen
    clear hc hI hrl
    go_wp2_with fail
    --%B
    refine (rise_any ra rl rc n row _ HI.out hlen hn).mono ?_
    rintro e w1 ⟨rfl,rfl⟩
    cases hro:rowOk n (-1) row with
    | false =>
     have HE:=hid (show z = 130 by rw [H.out,hro]; rfl)
     clear hro
     go_wp2_with fail
     go_ret
     exact ⟨Kept.refl _,by rw [HE.out]; rfl⟩
    | true =>
     have HE:=hid (show z = if (P.drop (i + 1)).all (rowOk n (-1)) = true then 0 else 130 by rw [H.out,hro,Bool.true_and])
     clear hro H
     go_wp2_with fail
     go_roundw
     case rel => exact ⟨i + 1,by omega,by go_num,by first | rfl | trivial,HE.out⟩
     case measure => show n - ((i:Int) + 1).toNat < n - (i:Int).toNat; omega
   ·
    have hii:¬ (i:Int) < (n:Int):=by omega
    have HE:=hid (show z = 0 by rw [H.out,List.drop_eq_nil_of_le (by have:=HL.out.2.1; omega)]; rfl)
    go_wp2_with fail
    go_ret
    exact ⟨Kept.refl _,by rw [HE.out]; rfl⟩
end Sp
end Go.Proofs.Ytojbncpifpghgaa

namespace Go.Proofs.Ytojbncpifpghgaa
open Go.RowKit
open V (RowL RowL.alloc RowL.lt RowL.cell RowL.fz RowL.kept RowL.block RowL.set RowL.far)
open X (zk zr zl zd region_z)
namespace Sp
theorem info_u64:(Try.prog.info? 73).map (fun i => (i.zero,i.size,i.bytes)) = some (some (.int .u64 0),1,8):=by kernel_rfl
theorem und_sheet:Try.prog.underlying 57 = some (.slice 73):=by kernel_rfl
theorem make_sheet {n:Nat} (hn:n≤1000000) (u:World):(Instr.makeSlice 57 (.int .i64 (n:Int)) (.int .i64 (n:Int))).run Try.prog u = .ok (.slice (some ⟨u.heap.size,0,none⟩) n n) (u.alloc (.cells (wrow n fun _ _ => false).toArray 73)):=by
 obtain ⟨i0,hi,hz0,hz1,hz2⟩:=info_parts info_u64
 have h:=run_make (P:=Try.prog) u 57 73 i0 (.int .u64 0) und_sheet hi hz0 .i64 .i64 (n:Int) (n:Int) (by omega) (Int.le_refl _) (by rw [hz2]; omega) (by omega)
 rw [Int.toNat_natCast,hz1,made_row _ rfl] at h
 rw [show (wrow n fun _ _ => false) = vrow n fun _ => .int .u64 0 from vrow_congr fun i _ => by unfold wv; rw [wd_zero]; rfl]
 exact h
theorem make_ints {n:Nat} (hn:n≤1000000) (u:World):(Instr.makeSlice 41 (.int .i64 (n:Int)) (.int .i64 (n:Int))).run Try.prog u = .ok (.slice (some ⟨u.heap.size,0,none⟩) n n) (u.alloc (.cells (vrow n fun _ => .int .i64 0).toArray 3)):=by
 obtain ⟨i0,hi,hz0,hz1,hz2⟩:=info_parts info_i64
 have h:=run_make (P:=Try.prog) u 41 3 i0 (.int .i64 0) und_ints hi hz0 .i64 .i64 (n:Int) (n:Int) (by omega) (Int.le_refl _) (by rw [hz2]; omega) (by omega)
 rw [Int.toNat_natCast,hz1,made_row _ rfl] at h
 exact h
def mS (P:List (List Int)) (i k:Nat):Nat→Nat→Bool:=fun j c => if j < i then mP P j c else if j = i then mT (P.getD i []) k c else false
theorem mS_zero (P:List (List Int)):mS P 0 0 = fun _ _ => false:=by
 funext j c
 unfold mS mT
 rw [if_neg (by omega)]
 split
 ·
  simp
 ·
  rfl
theorem mS_row {P:List (List Int)} {i k:Nat} (hk:(P.getD i []).length≤k):mS P i k = mS P (i + 1) 0:=by
 funext j c
 unfold mS
 by_cases h:j < i
 ·
  rw [if_pos h,if_pos (by omega)]
 ·
  rw [if_neg h]
  by_cases e:j = i
  ·
   rw [if_pos e,if_pos (by omega),e]
   unfold mT mP
   rw [List.take_of_length_le hk]
  ·
   rw [if_neg e,if_neg (by omega)]
   split
   ·
    unfold mT; simp
   ·
    rfl
theorem mS_step {P:List (List Int)} {n i k x:Nat} (hk:k < (P.getD i []).length) (hx:(P.getD i []).getD k 0 = (x:Int)):(wrow n (mS P i k)).set i (wv n fun c => mS P i k i c || decide (c = x)) = wrow n (mS P i (k + 1)):=by
 refine wrow_set (fun c _ => ?_) (fun j c _ _ hj => ?_)
 ·
  unfold mS
  rw [if_neg (by omega),if_pos rfl,if_neg (by omega),if_pos rfl,← congrFun (mT_step hk hx) c]
  by_cases e:c = x
  ·
   rw [decide_eq_true e,if_pos e,Bool.or_true]
  ·
   rw [decide_eq_false e,if_neg e,Bool.or_false]
 ·
  unfold mS
  rw [if_neg hj,if_neg hj]
theorem or_bit {n x y:Nat} (hn:n≤64) (hx:x < n) (hy:y = 2 ^ x) (f:Nat→Bool):bits .or .u64 ((wd n f:Nat):Int) (y:Int) = ((wd n (fun c => f c || decide (c = x)):Nat):Int):=by
 rw [hy,bits_or_u64_nat _ _ (wd_u64 hn f) (Nat.pow_lt_pow_of_lt (a:=2) (n:=x) (m:=64) (by omega) (by omega)),wd_bit1 hx,wd_or]
set_option maxRecDepth 100000 in
set_option maxHeartbeats 8000000 in
theorem sheetOf_any (ao:Option Addr) (n c:Nat) (P:List (List Int)) (w:World) (h:PatR w (.slice ao n c) P) (hn:n≤1000000) (hr:∀ l ∈ P,l.length≤1000000) :
  Calls Try.prog 18 #[.slice ao n c] w fun e w' => Kept w w'∧((okP P = false∧e = .returned (.tuple #[.slice none 0 0,.int .i64 130])) ∨ (okP P = true∧∃ g,w.heap.size≤g∧e = .returned (.tuple #[.slice (some ⟨g,0,none⟩) n n,.int .i64 0])∧RowL 73 w' g (wrow n (mP P)))):=by
 have hl:=h.len
 have HL:=hid (And.intro h (And.intro hl hr))
 have hmk:=make_sheet (n:=n) hn
 clear h hl hr
 go_enter Try.func18,Try.ntmps18
 go_wp2_with fail
 refine (sp_check ao n c P _ HL.out.1 hn HL.out.2.2).mono ?_
 rintro e w1 ⟨hk,rfl⟩
 have HK:=hid hk
 clear hk
 cases hok:okP P with
 | false =>
  have hc:chkP P = 130:=by unfold chkP; rw [if_neg (by rw [hok]; decide)]
  rw [hc]
  have HOK:=hid hok
  clear hc hok
  go_wp2_with fail
  go_ret2
  exact ⟨HK.out,Or.inl ⟨HOK.out,rfl⟩⟩
 | true =>
  have hc:chkP P = 0:=by unfold chkP; rw [if_pos hok]
  have hn48:n≤48:=by have:=okP_len hok; have:=HL.out.2.1; omega
  rw [hc]
  have HOK:=hid hok
  clear hc hok
  have kA:=(Kept.refl w1).alloc (.cells (wrow n fun _ _ => false).toArray 73)
  have rA:=RowL.alloc 73 w1 (wrow n fun _ _ => false)
  --%A
  go_upto_region 5 with fail
  generalize w1.alloc (.cells (wrow n fun _ _ => false).toArray 73) = W at kA rA ⊢
  obtain ⟨g,hg⟩:∃ q,q = w1.heap.size:=⟨_,rfl⟩
  rw [← hg] at rA ⊢
  have HG:=hid (show w.heap.size≤g by rw [hg]; exact HK.out.size)
  have HQ:=hid (And.intro (HK.out.trans kA) (show RowL 73 W g (wrow n (mS P 0 0)) by rw [mS_zero]; exact rA))
  clear kA rA hg HK
  go_wp2_with fail
  --%B
  go_loopw [20] (fun v20 wr => ∃ (i:Nat),i≤n∧v20 = .int .i64 (i:Int)∧Hid (Kept w wr∧RowL 73 wr g (wrow n (mS P i 0)))) (fun v20 _ => n - (intOf v20).toNat)
  case atStart => exact ⟨0,Nat.zero_le _,rfl,HQ.out⟩
  case round =>
   clear HQ
   obtain ⟨i,hil,rfl,H⟩:=hrel
   by_cases hit:i < n
   ·
    have hii:(i:Int) < (n:Int):=by omega
    have hi0:(0:Int)≤(i:Int):=by omega
    have hiL:i < P.length:=by have:=HL.out.2.1; omega
    obtain ⟨b,off,rfl,ra,rc,hc,hI⟩:=HL.out.1.row hiL
    have c1:=hc _ H.out.1
    have HI:=hid hI
    have HM:=hid (fun x hx => okP_mem HOK.out hiL x hx)
    have hlen:(P.getD i []).length≤n:=by
     have h1:=rowOk_long (okP_row HOK.out hiL) (by omega)
     have h2:=HL.out.2.1
     omega
    obtain ⟨row,hrow⟩:∃ r,r = P.getD i []:=⟨_,rfl⟩
    rw [← hrow] at c1 HI HM hlen
    obtain ⟨rl,hrl⟩:∃ r,r = row.length:=⟨_,rfl⟩
    rw [← hrl] at c1 HI hlen
    have HR:=hid (And.intro hrl hrow)
    clear hc hI hrl hrow
    go_wp2_with fail
    --%C
    go_loopw [27] (fun v27 wr => ∃ (k:Nat),k≤rl∧v27 = .int .i64 (k:Int)∧Hid (Kept w wr∧RowL 73 wr g (wrow n (mS P i k)))) (fun v27 _ => rl - (intOf v27).toNat)
    case atStart => exact ⟨0,Nat.zero_le _,rfl,H.out⟩
    case round =>
     clear H c1
     obtain ⟨k,hkl,rfl,K⟩:=hrel
     by_cases hkt:k < rl
     ·
      have hkk:(k:Int) < (rl:Int):=by omega
      have hk0:(0:Int)≤(k:Int):=by omega
      have hkL:k < row.length:=by have:=HR.out.1; omega
      obtain ⟨b2,o2,rfl,hd⟩:=HI.out.at hkL
      have c2:=hd _ K.out.1
      have hm:=HM.out (row.getD k 0) (by rw [List.getD_eq_getElem?_getD,List.getElem?_eq_getElem hkL]; exact List.getElem_mem hkL)
      obtain ⟨x,hx⟩:=Int.eq_ofNat_of_zero_le hm.1
      have hxn:x < n:=by have:=HL.out.2.1; omega
      have hx64:x < 64:=by omega
      have HS:=hid (mS_step (n:=n) (show k < (P.getD i []).length by rw [← HR.out.2]; exact hkL) (show (P.getD i []).getD k 0 = (x:Int) by rw [← HR.out.2]; exact hx))
      rw [hx] at c2
      have kd:=K.out.1.drew
      have rd:=K.out.2.kept (Kept.refl wr).drew
      have cw:wr.drew.cell? ⟨g,i,none⟩ = some (.int .u64 ((wd n (mS P i k i):Nat):Int)):=rd.cell i _ (vrow_at hit)
      obtain ⟨y,hy⟩:∃ y,y = 2 ^ x:=⟨_,rfl⟩
      have HY:=hid hy
      have HOR:=hid (or_bit (by omega) hxn hy (mS P i k i))
      generalize hwd:wd n (mS P i k i) = z at cw HOR
      clear hd hm hx hy
      --%D
      go_upto_region 11 with fail
      refine region_z 8 (S:=fun w' => w'.cell? ⟨g,i,none⟩ = some (.int .u64 (z:Int))) (by kernel_rfl) cw (fun hHeld => ?_)
      have HQ:=hid (And.intro kd rd)
      clear kd rd cw c2 hwd K
      generalize wr.drew = Wd at HQ hHeld ⊢
      refine zk 0 hHeld ?_
      refine zk 1 hHeld ?_
      refine zk 2 hHeld ?_
      refine zk 3 hHeld ?_
      refine zk 4 hHeld ?_
      refine zr 5 fun K hK => ?_
      go_simp
      refine (bit_any x y _ hx64 HY.out).mono ?_
      rintro e w2 ⟨rfl,rfl⟩
      refine hK.out _ _ hHeld (fun hHeld => ?_)
      clear hK K
      go_simp
      --%E
      refine zk 6 hHeld ?_
      refine zk 7 hHeld ?_
      refine zl fun K hK => ?_
      have cw:=hHeld
      have fw:=HQ.out.2.fz i
      go_simp
      refine hK.out _ _ ?_
      refine zd ?_
      --%F
      have HQ2:=hid (And.intro (HQ.out.1.setCell (p:=⟨g,i,none⟩) HG.out (.int .u64 (bits .or .u64 (z:Int) (y:Int)))) (HQ.out.2.set i (.int .u64 (bits .or .u64 (z:Int) (y:Int)))))
      clear hHeld cw fw HQ
      go_wp2_with fail
      go_roundw
      case rel => exact ⟨k + 1,by omega,by go_num,HQ2.out.1,by rw [← HS.out]; have:=HQ2.out.2; rw [HOR.out] at this ⊢; exact this⟩
      case measure => show rl - ((k:Int) + 1).toNat < rl - (k:Int).toNat; omega
     ·
      have hkk:¬ (k:Int) < (rl:Int):=by omega
      have HE:=hid (show mS P i k = mS P (i + 1) 0 from mS_row (by rw [← HR.out.2,← HR.out.1]; omega))
      go_wp2_with fail
      go_roundw
      case rel => exact ⟨i + 1,by omega,by go_num,K.out.1,by rw [← HE.out]; exact K.out.2⟩
      case measure => show n - ((i:Int) + 1).toNat < n - (i:Int).toNat; omega
   ·
    have hii:¬ (i:Int) < (n:Int):=by omega
    have HE:=hid (show wrow n (mS P i 0) = wrow n (mP P) from wrow_congr fun j k hj _ => by unfold mS; rw [if_pos (by omega)])
    go_wp2_with fail
    go_ret2
    exact ⟨H.out.1,Or.inr ⟨HOK.out,g,HG.out,rfl,by rw [← HE.out]; exact H.out.2⟩⟩
end Sp
end Go.Proofs.Ytojbncpifpghgaa

namespace Go.Proofs.Ytojbncpifpghgaa
open Go.RowKit
open V (RowL RowL.alloc RowL.lt RowL.cell RowL.fz RowL.kept RowL.block RowL.set RowL.far)
namespace Sp
theorem and_bit {n x y:Nat} (hn:n≤64) (hx:x < n) (hy:y = 2 ^ x) (f:Nat→Bool):bits .and .u64 ((wd n f:Nat):Int) (y:Int) = if f x = true then (y:Int) else 0:=by
  rw [hy,bits_and_u64_nat _ _ (wd_u64 hn f) (Nat.pow_lt_pow_of_lt (a:=2) (n:=x) (m:=64) (by omega) (by omega)),wd_and1 f hx]
  split <;> rfl
theorem and_ne {n x y:Nat} (hn:n≤64) (hx:x < n) (hy:y = 2 ^ x) (f:Nat→Bool):(bits .and .u64 ((wd n f:Nat):Int) (y:Int) != 0) = f x∧(bits .and .u64 ((wd n f:Nat):Int) (y:Int) == 0) = !f x:=by
  have h0:(y:Int) ≠ 0:=by have:=Nat.two_pow_pos x; omega
  rw [and_bit hn hx hy]
  cases f x with
  | false => exact ⟨rfl,rfl⟩
  | true =>
    rw [if_pos rfl]
    refine ⟨by simpa using h0,by simpa using h0⟩
theorem cost_bounds (x y n:Nat) (hx:x≤n) (hy:y≤n) (hn:n≤48):-48≤((x:Int) - 1) * ((y:Int) - 1)∧((x:Int) - 1) * ((y:Int) - 1)≤2304:=by
  constructor
  · rcases Nat.eq_zero_or_pos x with h | h <;> rcases Nat.eq_zero_or_pos y with h' | h'
    · subst h h'; decide
    · subst h; omega
    · subst h'; omega
    · have:=Int.mul_nonneg (show (0:Int)≤(x:Int) - 1 by omega) (show (0:Int)≤(y:Int) - 1 by omega)
      omega
  · rcases Nat.eq_zero_or_pos x with h | h <;> rcases Nat.eq_zero_or_pos y with h' | h'
    · subst h h'; decide
    · subst h; omega
    · subst h'; omega
    · have:((x:Int) - 1) * ((y:Int) - 1)≤48 * 48:=Int.mul_le_mul (by omega) (by omega) (by omega) (by omega)
      omega
set_option maxRecDepth 100000 in
set_option maxHeartbeats 8000000 in
theorem shas_any (g n:Nat) (m:Nat→Nat→Bool) (r k:Int) (w:World) (h:RowL 73 w g (wrow n m)) (hn:n≤48) :
    Calls Try.prog 21 #[.slice (some ⟨g,0,none⟩) n n,.int .i64 r,.int .i64 k] w fun e w' => Kept w w'∧e = .returned (.bool (hasM n m r k)):=by
  have HL:=hid h
  obtain ⟨z,hz⟩:∃ z,z = hasM n m r k:=⟨_,rfl⟩
  rw [← hz]
  have HZ:=hid hz
  clear h hz
  have HKD:=hid (Kept.refl w).drew
  go_enter Try.func21,Try.ntmps21
  by_cases hin:0≤r∧r < (n:Int)∧0≤k∧k < (n:Int)
  · obtain ⟨h1,h2,h3,h4⟩:=hin
    obtain ⟨r,rfl⟩:=Int.eq_ofNat_of_zero_le h1
    obtain ⟨k,rfl⟩:=Int.eq_ofNat_of_zero_le h3
    have hkn:k < n:=by omega
    have hk64:k < 64:=by omega
    obtain ⟨y,hy⟩:∃ y,y = 2 ^ k:=⟨_,rfl⟩
    have HY:=hid hy
    have hA:=(and_ne (n:=n) (by omega) hkn hy (m r)).1
    have HE:=hid (show z = m r k by rw [HZ.out]; unfold hasM; rw [decide_eq_true h1,decide_eq_true h2,decide_eq_true h3,decide_eq_true h4]; rfl)
    have cw:w.drew.cell? ⟨g,r,none⟩ = some (.int .u64 ((wd n (m r):Nat):Int)):=(HL.out.kept HKD.out).cell r _ (vrow_at (by omega))
    generalize m r k = b at hA HE
    generalize wd n (m r) = x at cw hA
    clear hy
    go_upto_region 2 with fail
    --%A
    refine wp_region_held_drew (S:=fun w' => w'.cell? ⟨g,r,none⟩ = some (.int .u64 (x:Int))) (by kernel_rfl) cw (fun hHeld => ?_)
    clear cw
    generalize w.drew = Wd at HKD hHeld ⊢
    refine tk 0 hHeld ?_
    refine tk 1 hHeld ?_
    refine tk 2 hHeld ?_
    refine tk 3 hHeld ?_
    refine tk 4 hHeld ?_
    refine tk 5 hHeld ?_
    refine tk 6 hHeld ?_
    refine rdy 7 fun K hK => ?_
    go_simp
    refine (bit_any k y _ hk64 HY.out).mono ?_
    rintro e w2 ⟨rfl,rfl⟩
    refine hK.out _ _ hHeld (fun hHeld => ?_)
    clear hK K
    go_simp
    --%B
    refine tk 8 hHeld ?_
    refine tk 9 hHeld ?_
    refine tk 10 hHeld ?_
    refine tk 11 hHeld ?_
    refine _root_.Go.Proofs.Ytojbncpifpghgaa.dn ?_
    clear hHeld
    --%C
    go_wp2_with fail
    go_ret
    exact ⟨HKD.out,by rw [HE.out]; rfl⟩
  · have HE:=hid (show z = false by
      rw [HZ.out]; unfold hasM
      by_cases h1:0≤r
      · by_cases h2:r < (n:Int)
        · by_cases h3:0≤k
          · have h4:¬ k < (n:Int):=fun h4 => hin ⟨h1,h2,h3,h4⟩
            rw [decide_eq_false h4]; simp
          · rw [decide_eq_false h3]; simp
        · rw [decide_eq_false h2]; simp
      · rw [decide_eq_false h1]; simp)
    have hC:¬ 0≤r ∨ (0≤r∧¬ r < (n:Int)) ∨ (0≤r∧r < (n:Int)∧¬ 0≤k) ∨ (0≤r∧r < (n:Int)∧0≤k∧¬ k < (n:Int)):=by omega
    clear hin
    rcases hC with h1 | ⟨h1,h2⟩ | ⟨h1,h2,h3⟩ | ⟨h1,h2,h3,h4⟩ <;>
      (go_upto_region 2 with fail
       refine wp_region_held_drew (S:=fun _ => True) (by kernel_rfl) trivial (fun hHeld => ?_)
       generalize w.drew = Wd at HKD ⊢
       refine tk 0 hHeld ?_
       refine tk 1 hHeld ?_
       refine sk 2 hHeld ?_
       refine sk 3 hHeld ?_
       refine sk 4 hHeld ?_
       refine sk 5 hHeld ?_
       refine sk 6 hHeld ?_
       refine sk 7 hHeld ?_
       refine sk 8 hHeld ?_
       refine sk 9 hHeld ?_
       refine tk 10 hHeld ?_
       refine tk 11 hHeld ?_
       refine _root_.Go.Proofs.Ytojbncpifpghgaa.dn ?_
       clear hHeld
       go_wp2_with fail
       go_ret
       exact ⟨HKD.out,by rw [HE.out]; rfl⟩)
set_option maxRecDepth 100000 in
set_option maxHeartbeats 8000000 in
theorem scost_any (g n:Nat) (m:Nat→Nat→Bool) (r:Nat) (x:Nat) (w:World) (h:RowL 73 w g (wrow n m)) (hn:n≤48) (hr:r < n) (hx:x≤n) :
    Calls Try.prog 23 #[.slice (some ⟨g,0,none⟩) n n,.int .i64 (r:Int),.int .i64 (x:Int)] w fun e w' => w' = w∧e = .returned (.int .i64 (((rowL n m r).length - 1:Int) * ((x:Int) - 1))):=by
  have c1:w.cell? ⟨g,r,none⟩ = some (.int .u64 ((wd n (m r):Nat):Int)):=h.cell r _ (vrow_at hr)
  have HB:=hid (show bitsC (wd n (m r)) 64 = (rowL n m r).length from bitsC_wd (by omega) (m r))
  have hw:=wd_u64 (n:=n) (by omega) (m r)
  have hy:(rowL n m r).length≤n:=cnt_le (m r) n
  generalize (rowL n m r).length = y at HB hy ⊢
  generalize wd n (m r) = z at c1 HB hw
  have hri:(r:Int) < (n:Int):=by omega
  have hr0:(0:Int)≤(r:Int):=by omega
  have hb:=cost_bounds y x n hy hx hn
  clear h
  go_enter Try.func23,Try.ntmps23
  go_wp2_with fail
  refine (ones_any z _ hw).mono ?_
  rintro e w1 ⟨rfl,rfl⟩
  rw [HB.out]
  go_wp2_with fail
  go_ret
  exact ⟨rfl,rfl⟩
end Sp
end Go.Proofs.Ytojbncpifpghgaa

namespace Go.Proofs.Ytojbncpifpghgaa
open Go.RowKit
open V (RowL RowL.alloc RowL.lt RowL.cell RowL.fz RowL.kept RowL.block RowL.set RowL.far)
namespace Sp
def cntU (m:Nat→Nat→Bool) (i c:Nat):Nat:=((List.range i).filter fun r => m r c).length
def iv (x:Nat):Value:=.int .i64 (x:Int)
def hrow (n:Nat) (m:Nat→Nat→Bool) (i k:Nat):List Value:=vrow n fun c => iv (if c < k then cntU m (i + 1) c else cntU m i c)
theorem hrow_zero (n:Nat) (m:Nat→Nat→Bool):(vrow n fun _ => .int .i64 0) = hrow n m 0 0:=vrow_congr fun c _ => by rw [if_neg (by omega)]; rfl
theorem hrow_row (n:Nat) (m:Nat→Nat→Bool) (i:Nat):hrow n m i n = hrow n m (i + 1) 0:=vrow_congr fun c hc => by rw [if_pos hc,if_neg (by omega)]
theorem cntU_step (m:Nat→Nat→Bool) (i c:Nat):cntU m (i + 1) c = cntU m i c + (if m i c = true then 1 else 0):=cnt_succ (fun r => m r c) i
theorem hrow_not {n:Nat} {m:Nat→Nat→Bool} {i k:Nat} (h:m i k = false):hrow n m i k = hrow n m i (k + 1):=vrow_congr fun c hc => by
 by_cases e:c = k
 ·
  rw [e,if_neg (by omega),if_pos (by omega),cntU_step,h]; rfl
 ·
  by_cases e2:c < k
  ·
   rw [if_pos e2,if_pos (by omega)]
  ·
   rw [if_neg e2,if_neg (by omega)]
theorem hrow_yes {n:Nat} {m:Nat→Nat→Bool} {i k:Nat} (h:m i k = true):(hrow n m i k).set k (iv (cntU m i k + 1)) = hrow n m i (k + 1):=by
 unfold hrow
 rw [vrow_set]
 refine vrow_congr fun c hc => ?_
 by_cases e:c = k
 ·
  rw [if_pos e,e,if_pos (by omega),cntU_step,h]; rfl
 ·
  rw [if_neg e]
  by_cases e2:c < k
  ·
   rw [if_pos e2,if_pos (by omega)]
  ·
   rw [if_neg e2,if_neg (by omega)]
set_option maxRecDepth 100000 in
set_option maxHeartbeats 8000000 in
theorem heights_any (g n:Nat) (m:Nat→Nat→Bool) (w:World) (h:RowL 73 w g (wrow n m)) (hn:n≤48) :
  Calls Try.prog 24 #[.slice (some ⟨g,0,none⟩) n n] w fun e w' => Kept w w'∧∃ q,w.heap.size≤q∧e = .returned (.slice (some ⟨q,0,none⟩) n n)∧RowL 3 w' q (vrow n fun c => iv (colL n m c).length):=by
 have hmk:=make_ints (n:=n) (by omega)
 have HL:=hid h
 clear h
 have kA:=(Kept.refl w).alloc (.cells (vrow n fun _ => .int .i64 0).toArray 3)
 have rA:=RowL.alloc 3 w (vrow n fun _ => .int .i64 0)
 go_enter Try.func24,Try.ntmps24
 go_upto_region 2 with fail
 --%A
 generalize w.alloc (.cells (vrow n fun _ => .int .i64 0).toArray 3) = W at kA rA ⊢
 obtain ⟨q,hq⟩:∃ q,q = w.heap.size:=⟨_,rfl⟩
 rw [← hq] at rA ⊢
 have HG:=hid (show w.heap.size≤q by rw [hq]; exact Nat.le_refl _)
 have HQ:=hid (And.intro kA (show RowL 3 W q (hrow n m 0 0) by rw [← hrow_zero]; exact rA))
 clear kA rA hq
 go_wp2_with fail
 go_loopw [12] (fun v12 wr => ∃ (i:Nat),i≤n∧v12 = .int .i64 (i:Int)∧Hid (Kept w wr∧RowL 3 wr q (hrow n m i 0))) (fun v12 _ => n - (intOf v12).toNat)
 case atStart => exact ⟨0,Nat.zero_le _,rfl,HQ.out⟩
 case round =>
  clear HQ
  obtain ⟨i,hil,rfl,H⟩:=hrel
  by_cases hit:i < n
  ·
   have hii:(i:Int) < (n:Int):=by omega
   have hi0:(0:Int)≤(i:Int):=by omega
   have c1:wr.cell? ⟨g,i,none⟩ = some (.int .u64 ((wd n (m i):Nat):Int)):=(HL.out.kept H.out.1).cell i _ (vrow_at hit)
   obtain ⟨z,hz⟩:∃ z,z = wd n (m i):=⟨_,rfl⟩
   rw [← hz] at c1
   have HZ:=hid hz
   clear hz
   go_wp2_with fail
   --%B
   go_loopw [18] (fun v18 wr => ∃ (k:Nat),k≤n∧v18 = .int .i64 (k:Int)∧Hid (Kept w wr∧RowL 3 wr q (hrow n m i k))) (fun v18 _ => n - (intOf v18).toNat)
   case atStart => exact ⟨0,Nat.zero_le _,rfl,H.out⟩
   case round =>
    clear H c1
    obtain ⟨k,hkl,rfl,K⟩:=hrel
    by_cases hkt:k < n
    ·
     have hkk:(k:Int) < (n:Int):=by omega
     have hk0:(0:Int)≤(k:Int):=by omega
     have hk64:k < 64:=by omega
     obtain ⟨y,hy⟩:∃ y,y = 2 ^ k:=⟨_,rfl⟩
     have hA:=(and_ne (n:=n) (by omega) hkt hy (m i)).1
     rw [← HZ.out] at hA
     have HY:=hid hy
     clear hy
     go_wp2_with fail
     refine (bit_any k y _ hk64 HY.out).mono ?_
     rintro e w2 ⟨rfl,rfl⟩
     --%C
     cases hm:m i k with
     | false =>
      rw [hm] at hA
      have HE:=hid (hrow_not (n:=n) hm)
      clear hm
      go_wp2_with fail
      go_roundw
      case rel => exact ⟨k + 1,by omega,by go_num,K.out.1,by rw [← HE.out]; exact K.out.2⟩
      case measure => show n - ((k:Int) + 1).toNat < n - (k:Int).toNat; omega
     | true =>
      rw [hm] at hA
      have HE:=hid (hrow_yes (n:=n) hm)
      have c0:w2.cell? ⟨q,k,none⟩ = some (iv (cntU m i k)):=by
       have:=K.out.2.cell k _ (vrow_at hkt)
       rw [if_neg (Nat.lt_irrefl _)] at this
       exact this
      have f2:=K.out.2.fz k
      have hx:cntU m i k≤i:=cnt_le _ _
      have HS:=hid (And.intro (K.out.1.setCell (p:=⟨q,k,none⟩) HG.out (iv (cntU m i k + 1))) (K.out.2.set k (iv (cntU m i k + 1))))
      generalize cntU m i k = x at c0 hx HS HE
      have c2:w2.cell? ⟨q,k,none⟩ = some (.int .i64 (x:Int)):=c0
      clear c0
      have HS:=hid (show Kept w (w2.setCell ⟨q,k,none⟩ (.int .i64 ((x:Int) + 1)))∧RowL 3 (w2.setCell ⟨q,k,none⟩ (.int .i64 ((x:Int) + 1))) q (hrow n m i (k + 1)) by rw [← HE.out]; exact HS.out)
      clear hm HE
      --%D
      go_wp2_with fail
      go_roundw
      case rel => exact ⟨k + 1,by omega,by go_num,HS.out⟩
      case measure => show n - ((k:Int) + 1).toNat < n - (k:Int).toNat; omega
    ·
     have hkk:¬ (k:Int) < (n:Int):=by omega
     obtain rfl:k = n:=by omega
     have HE:=hid (hrow_row k m i)
     go_wp2_with fail
     go_roundw
     case rel => exact ⟨i + 1,by omega,by go_num,K.out.1,by rw [← HE.out]; exact K.out.2⟩
     case measure => show k - ((i:Int) + 1).toNat < k - (i:Int).toNat; omega
  ·
   have hii:¬ (i:Int) < (n:Int):=by omega
   obtain rfl:i = n:=by omega
   go_wp2_with fail
   go_ret
   exact ⟨H.out.1,q,HG.out,rfl,by have:=H.out.2; rw [show hrow i m i 0 = vrow i fun c => iv (colL i m c).length from vrow_congr fun c _ => by rw [if_neg (by omega)]; rfl] at this; exact this⟩
def lO (n:Nat) (m:Nat→Nat→Bool) (o:Option (Nat × Nat)):Int:=match o with | none => 0 | some q => cost n m q.1 q.2
set_option maxRecDepth 100000 in
set_option maxHeartbeats 8000000 in
theorem sbest_any (g n:Nat) (m:Nat→Nat→Bool) (w:World) (h:RowL 73 w g (wrow n m)) (hn:n≤48) :
  Calls Try.prog 19 #[.slice (some ⟨g,0,none⟩) n n] w fun e w' => Kept w w'∧e = .returned (.tuple #[.int .i64 (rO (bestOf n m):Int),.int .i64 (cO (bestOf n m):Int),.bool (bestOf n m).isSome]):=by
 have HL:=hid h
 obtain ⟨z,hz⟩:∃ z,z = bestOf n m:=⟨_,rfl⟩
 rw [← hz]
 have HZ:=hid (show bestUp n m n 0 = z by rw [bestUp_all,hz])
 clear h hz
 go_enter Try.func19,Try.ntmps19
 go_wp2_with fail
 refine (heights_any g n m _ HL.out hn).mono ?_
 rintro e w1 ⟨hk,q,hq,rfl,hH⟩
 have HK:=hid (And.intro hk hH)
 clear hk hH hq
 go_wp2_with fail
 --%A
 go_loopw [2,3,4,5,15] (fun v2 v3 v4 v5 v15 wr => ∃ (i:Nat) (o:Option (Nat × Nat)),i≤n∧v2 = .int .i64 (rO o:Int)∧v3 = .int .i64 (cO o:Int)∧v4 = .bool o.isSome∧v5 = .int .i64 (lO n m o)∧v15 = .int .i64 (i:Int)∧Hid (Kept w1 wr∧o = bestUp n m i 0)) (fun _ _ _ _ v15 _ => n - (intOf v15).toNat)
 case atStart => exact ⟨0,none,Nat.zero_le _,rfl,rfl,rfl,rfl,rfl,Kept.refl _,rfl⟩
 case round =>
  obtain ⟨i,o,hil,rfl,rfl,rfl,rfl,rfl,H⟩:=hrel
  by_cases hit:i < n
  ·
   have hii:(i:Int) < (n:Int):=by omega
   have hi0:(0:Int)≤(i:Int):=by omega
   go_wp2_with fail
   go_loopw [2,3,4,5,20] (fun v2 v3 v4 v5 v20 wr => ∃ (k:Nat) (o:Option (Nat × Nat)),k≤n∧v2 = .int .i64 (rO o:Int)∧v3 = .int .i64 (cO o:Int)∧v4 = .bool o.isSome∧v5 = .int .i64 (lO n m o)∧v20 = .int .i64 (k:Int)∧Hid (Kept w1 wr∧o = bestUp n m i k)) (fun _ _ _ _ v20 _ => n - (intOf v20).toNat)
   case atStart => exact ⟨0,o,Nat.zero_le _,rfl,rfl,rfl,rfl,rfl,H.out.1,H.out.2⟩
   case round =>
    clear H
    obtain ⟨k,o,hkl,rfl,rfl,rfl,rfl,rfl,H⟩:=hrel
    by_cases hkt:k < n
    ·
     have hkk:(k:Int) < (n:Int):=by omega
     have hk0:(0:Int)≤(k:Int):=by omega
     have c1:wr.cell? ⟨q,k,none⟩ = some (.int .i64 ((colL n m k).length:Int)):=(HK.out.2.kept H.out.1).cell k _ (vrow_at hkt)
     have hcl:(colL n m k).length≤n:=cnt_le _ _
     have HC:=hid (show cost n m i k = ((rowL n m i).length - 1:Int) * ((colL n m k).length - 1:Int) from rfl)
     generalize (colL n m k).length = hc at c1 hcl HC
     have HS:=hid (show bestUp n m i (k + 1) = less n m o (i,k) by rw [bestUp_step,← H.out.2])
     have HM:=hid (show hasM n m (i:Int) (k:Int) = m i k by unfold hasM; rw [decide_eq_true hi0,decide_eq_true hii,decide_eq_true hk0,decide_eq_true hkk]; rfl)
     --%B
     go_wp2_with fail
     refine (shas_any g n m (i:Int) (k:Int) _ ((HL.out.kept HK.out.1).kept H.out.1) hn).mono ?_
     rintro e w2 ⟨hk2,rfl⟩
     have H2:=hid (show Kept w1 w2 from H.out.1.trans hk2)
     rw [HM.out]
     clear hk2 c1 H
     --%C
     cases hm:m i k with
     | false =>
      have HE:=hid (show o = bestUp n m i (k + 1) by rw [HS.out]; unfold less; rw [if_neg (by rw [hm]; decide)])
      clear hm
      go_wp2_with fail
      go_roundw
      case rel => exact ⟨k + 1,o,by omega,rfl,rfl,rfl,rfl,by go_num,H2.out,HE.out⟩
      case measure => show n - ((k:Int) + 1).toNat < n - (k:Int).toNat; omega
     | true =>
      go_wp2_with fail
      refine (scost_any g n m i hc _ ((HL.out.kept HK.out.1).kept H2.out) hn hit hcl).mono ?_
      rintro e w3 ⟨rfl,rfl⟩
      rw [← HC.out]
      --%D
      cases o with
      | none =>
       have HE:=hid (show some (i,k) = bestUp n m i (k + 1) by rw [HS.out]; unfold less; rw [if_pos hm])
       have HX:=hid (show cost n m i k = lO n m (some (i,k)) from rfl)
       generalize cost n m i k = x at HX
       clear hm
       go_wp2_with fail
       go_roundw
       case rel => exact ⟨k + 1,some (i,k),by omega,rfl,rfl,rfl,by rw [← HX.out],by go_num,H2.out,HE.out⟩
       case measure => show n - ((k:Int) + 1).toNat < n - (k:Int).toNat; omega
      | some p =>
       obtain ⟨qr,qc⟩:=p
       have HE:=hid (show (if cost n m i k < cost n m qr qc then some (i,k) else some (qr,qc)) = bestUp n m i (k + 1) by rw [HS.out]; unfold less; rw [if_pos hm])
       have HX:=hid (show cost n m i k = lO n m (some (i,k)) from rfl)
       have HY:=hid (show cost n m qr qc = lO n m (some (qr,qc)) from rfl)
       clear hm HS HC
       generalize cost n m i k = x at HX HE
       generalize cost n m qr qc = y at HY HE
       rw [← HY.out]
       --%E
       by_cases hxy:x < y
       ·
        have HE:=hid (show some (i,k) = bestUp n m i (k + 1) by rw [← HE.out,if_pos hxy])
        go_wp2_with fail
        go_roundw
        case rel => exact ⟨k + 1,some (i,k),by omega,rfl,rfl,rfl,by rw [← HX.out],by go_num,H2.out,HE.out⟩
        case measure => show n - ((k:Int) + 1).toNat < n - (k:Int).toNat; omega
       ·
        have HE:=hid (show some (qr,qc) = bestUp n m i (k + 1) by rw [← HE.out,if_neg hxy])
        go_wp2_with fail
        go_roundw
        case rel => exact ⟨k + 1,some (qr,qc),by omega,rfl,rfl,rfl,by rw [← HY.out],by go_num,H2.out,HE.out⟩
        case measure => show n - ((k:Int) + 1).toNat < n - (k:Int).toNat; omega
    ·
     have hkk:¬ (k:Int) < (n:Int):=by omega
     obtain rfl:k = n:=by omega
     have HE:=hid (show o = bestUp k m (i + 1) 0 by rw [bestUp_row]; exact H.out.2)
     go_wp2_with fail
     go_roundw
     case rel => exact ⟨i + 1,o,by omega,rfl,rfl,rfl,rfl,by go_num,H.out.1,HE.out⟩
     case measure => show k - ((i:Int) + 1).toNat < k - (i:Int).toNat; omega
  ·
   have hii:¬ (i:Int) < (n:Int):=by omega
   obtain rfl:i = n:=by omega
   have HE:=hid (show o = z by rw [H.out.2,HZ.out])
   go_wp2_with fail
   go_ret3
   exact ⟨HK.out.1.trans H.out.1,by rw [HE.out]; rfl⟩
end Sp
end Go.Proofs.Ytojbncpifpghgaa

namespace Go.Proofs.Ytojbncpifpghgaa
open Go.RowKit
open V (RowL RowL.alloc RowL.lt RowL.cell RowL.fz RowL.kept RowL.block RowL.set RowL.far)
namespace Sp
def eS (m:Nat→Nat→Bool) (r c i:Nat):Nat→Nat→Bool:=fun j k => if j = r then false else if j < i then elim m r c j k else m j k
theorem eS_row (m:Nat→Nat→Bool) (r c i k:Nat):eS m r c i i k = if i = r then false else m i k:=by
 unfold eS
 rw [if_neg (Nat.lt_irrefl i)]
theorem eS_zero (n:Nat) (m:Nat→Nat→Bool) (r c:Nat):(wrow n m).set r (.int .u64 0) = wrow n (eS m r c 0):=by
 have h:=wrow_set (n:=n) (i:=r) (m:=m) (m':=eS m r c 0) (f:=fun _ => false) (fun k _ => by unfold eS; rw [if_pos rfl]) (fun j k _ _ hj => by unfold eS; rw [if_neg hj,if_neg (by omega)])
 rw [← h]
 unfold wv
 rw [wd_zero]
 rfl
theorem eS_end (n:Nat) (m:Nat→Nat→Bool) (r c:Nat):wrow n (eS m r c n) = wrow n (elim m r c):=wrow_congr fun j k hj _ => by
 unfold eS
 by_cases e:j = r
 ·
  rw [if_pos e,e,elim_row]
 ·
  rw [if_neg e,if_pos hj]
theorem eS_not {n:Nat} {m:Nat→Nat→Bool} {r c i:Nat} (h:eS m r c i i c = false):wrow n (eS m r c i) = wrow n (eS m r c (i + 1)):=wrow_congr fun j k _ _ => by
 rw [eS_row] at h
 unfold eS
 by_cases e:j = r
 ·
  rw [if_pos e,if_pos e]
 ·
  rw [if_neg e,if_neg e]
  by_cases e2:j = i
  ·
   subst e2
   rw [if_neg e] at h
   rw [if_neg (by omega),if_pos (by omega)]
   unfold elim
   rw [decide_eq_true e,h,Bool.false_and,Bool.or_false,Bool.true_and]
   by_cases e3:k = c
   ·
    rw [e3,h]; simp
   ·
    rw [decide_eq_true e3,Bool.true_and]
  ·
   by_cases e3:j < i
   ·
    rw [if_pos e3,if_pos (by omega)]
   ·
    rw [if_neg e3,if_neg (by omega)]
theorem fill_not {n:Nat} {m:Nat→Nat→Bool} {r c i:Nat} (h:eS m r c i i c = false):fillU n m r c (i + 1) = fillU n m r c i:=by
 rw [eS_row] at h
 rw [fillU_step]
 by_cases e:i = r
 ·
  rw [e,qF_row]; rfl
 ·
  rw [if_neg e] at h
  rw [show (List.range n).filter (qF m r c i) = [] from List.filter_eq_nil_iff.2 fun k _ => by unfold qF; rw [h]; simp]
  rfl
theorem eS_yes {n:Nat} {m:Nat→Nat→Bool} {r c i:Nat} (h:eS m r c i i c = true):(wrow n (eS m r c i)).set i (wv n fun k => (eS m r c i i k || m r k) && !decide (k = c)) = wrow n (eS m r c (i + 1)):=by
 have hir:i ≠ r:=by intro e; rw [eS_row,if_pos e] at h; cases h
 have hic:m i c = true:=by rw [eS_row,if_neg hir] at h; exact h
 refine wrow_set (fun k _ => ?_) (fun j k _ _ hj => ?_)
 ·
  rw [eS_row,if_neg hir]
  unfold eS
  rw [if_neg hir,if_pos (by omega)]
  unfold elim
  rw [decide_eq_true hir,hic,Bool.true_and,Bool.true_and,Bool.and_comm]
  congr 1
  by_cases e:k = c
  ·
   rw [decide_eq_true e,decide_eq_false (fun h => h e)]; rfl
  ·
   rw [decide_eq_false e,decide_eq_true e]; rfl
 ·
  unfold eS
  by_cases e:j = r
  ·
   rw [if_pos e,if_pos e]
  ·
   rw [if_neg e,if_neg e]
   by_cases e3:j < i
   ·
    rw [if_pos e3,if_pos (by omega)]
   ·
    rw [if_neg e3,if_neg (by omega)]
theorem fill_yes {n:Nat} {m:Nat→Nat→Bool} {r c i:Nat} (h:eS m r c i i c = true):fillU n m r c (i + 1) = fillU n m r c i + ((List.range n).filter fun k => m r k && !eS m r c i i k).length:=by
 have hir:i ≠ r:=by intro e; rw [eS_row,if_pos e] at h; cases h
 have hic:m i c = true:=by rw [eS_row,if_neg hir] at h; exact h
 rw [fillU_step]
 congr 2
 refine List.filter_congr fun k _ => ?_
 rw [eS_row,if_neg hir]
 unfold qF
 rw [hic,Bool.true_and,Bool.and_comm]
theorem not_word {n:Nat} (hn:n≤64) (f g:Nat→Bool):bits .andNot .u64 ((wd n f:Nat):Int) ((wd n g:Nat):Int) = ((wd n (fun k => f k && !g k):Nat):Int):=by
 rw [bits_andNot _ _ (wd_u64 hn f) (wd_u64 hn g),wd_not hn]
theorem or_word {n:Nat} (hn:n≤64) (f g:Nat→Bool):bits .or .u64 ((wd n f:Nat):Int) ((wd n g:Nat):Int) = ((wd n (fun k => f k || g k):Nat):Int):=by
 rw [bits_or_u64_nat _ _ (wd_u64 hn f) (wd_u64 hn g),wd_or]
theorem not_bit {n x y:Nat} (hn:n≤64) (hx:x < n) (hy:y = 2 ^ x) (f:Nat→Bool):bits .andNot .u64 ((wd n f:Nat):Int) (y:Int) = ((wd n (fun k => f k && !decide (k = x)):Nat):Int):=by
 rw [hy,wd_bit1 hx,not_word hn]
structure Only (g:Nat) (w w':World):Prop where
 kept:∀ w0,Kept w0 w→w0.heap.size≤g→Kept w0 w'
 block:∀ b,b ≠ g→w'.heap[b]? = w.heap[b]?
theorem only_refl (g:Nat) (w:World):Only g w w:=⟨fun _ k _ => k,fun _ _ => rfl⟩
theorem Only.set {g:Nat} {w w':World} (h:Only g w w') (i:Nat) (v:Value):Only g w (w'.setCell ⟨g,i,none⟩ v) :=
 ⟨fun w0 k hg => (h.kept w0 k hg).setCell (p:=⟨g,i,none⟩) hg v,fun b hb => by
  rw [← h.block b hb]
  simp only [World.setCell,Array.getElem?_modify]
  rw [if_neg (fun e => hb e.symm)]⟩
theorem Only.row {g p:Nat} {t:TypeId} {w w':World} {xs:List Value} (h:Only g w w') (hr:RowL t w p xs) (hne:p ≠ g):RowL t w' p xs:=hr.block (h.block p hne)
set_option maxRecDepth 100000 in
set_option maxHeartbeats 8000000 in
theorem selim_any (g n:Nat) (m:Nat→Nat→Bool) (r c:Nat) (w:World) (h:RowL 73 w g (wrow n m)) (hn:n≤48) (hr:r < n) (hc:c < n) :
  Calls Try.prog 20 #[.slice (some ⟨g,0,none⟩) n n,.int .i64 (r:Int),.int .i64 (c:Int)] w fun e w' => e = .returned (.int .i64 (fillC n m r c:Int))∧RowL 73 w' g (wrow n (elim m r c))∧Only g w w':=by
 have c0:w.cell? ⟨g,r,none⟩ = some (.int .u64 ((wd n (m r):Nat):Int)):=h.cell r _ (vrow_at hr)
 have f0:=h.fz r
 have HQ:=hid (And.intro (show RowL 73 (w.setCell ⟨g,r,none⟩ (.int .u64 0)) g (wrow n (eS m r c 0)) by rw [← eS_zero]; exact h.set r _) ((only_refl g w).set r (.int .u64 0)))
 obtain ⟨zc,hzc⟩:∃ z,z = wd n (m r):=⟨_,rfl⟩
 rw [← hzc] at c0
 have HZC:=hid hzc
 have hri:(r:Int) < (n:Int):=by omega
 have hr0:(0:Int)≤(r:Int):=by omega
 have hci:(c:Int) < (n:Int):=by omega
 have hc0:(0:Int)≤(c:Int):=by omega
 have hc64:c < 64:=by omega
 obtain ⟨y,hy⟩:∃ y,y = 2 ^ c:=⟨_,rfl⟩
 have HY:=hid hy
 obtain ⟨F,hF⟩:∃ F,F = fillC n m r c:=⟨_,rfl⟩
 rw [← hF]
 have HF:=hid hF
 clear h hzc hy hF
 go_enter Try.func20,Try.ntmps20
 go_upto_region 3 with fail
 --%A
 generalize w.setCell ⟨g,r,none⟩ (.int .u64 0) = W at HQ ⊢
 clear c0 f0
 go_wp2_with fail
 go_loopw [8,20] (fun v8 v20 wr => ∃ (i x:Nat),i≤n∧x≤i * 48∧v8 = .int .i64 (x:Int)∧v20 = .int .i64 (i:Int)∧Hid (x = fillU n m r c i∧RowL 73 wr g (wrow n (eS m r c i))∧Only g w wr)) (fun _ v20 _ => n - (intOf v20).toNat)
 case atStart => exact ⟨0,0,Nat.zero_le _,Nat.zero_le _,rfl,rfl,rfl,HQ.out.1,HQ.out.2⟩
 case round =>
  clear HQ
  obtain ⟨i,x,hil,hxi,rfl,rfl,H⟩:=hrel
  by_cases hit:i < n
  ·
   have hii:(i:Int) < (n:Int):=by omega
   have hi0:(0:Int)≤(i:Int):=by omega
   have c1:wr.cell? ⟨g,i,none⟩ = some (.int .u64 ((wd n (eS m r c i i):Nat):Int)):=H.out.2.1.cell i _ (vrow_at hit)
   have f1:=H.out.2.1.fz i
   have hA:=(and_ne (n:=n) (by omega) hc HY.out (eS m r c i i)).2
   have HB:=hid (And.intro (not_word (n:=n) (by omega) (m r) (eS m r c i i)) (And.intro (or_word (n:=n) (by omega) (eS m r c i i) (m r)) (not_bit (n:=n) (by omega) hc HY.out (fun k => eS m r c i i k || m r k))))
   rw [← HZC.out] at HB
   obtain ⟨zo,hzo⟩:∃ z,z = wd n (eS m r c i i):=⟨_,rfl⟩
   rw [← hzo] at c1 hA HB
   clear hzo
   go_wp2_with fail
   refine (bit_any c y _ hc64 HY.out).mono ?_
   rintro e w2 ⟨rfl,rfl⟩
   --%B
   cases hm:eS m r c i i c with
   | false =>
    rw [hm] at hA
    have HE:=hid (And.intro (eS_not (n:=n) hm) (fill_not (n:=n) hm))
    clear hm HB c1 f1
    go_wp2_with fail
    go_roundw
    case rel => exact ⟨i + 1,x,by omega,by omega,rfl,by go_num,by rw [HE.out.2]; exact H.out.1,by rw [← HE.out.1]; exact H.out.2.1,H.out.2.2⟩
    case measure => show n - ((i:Int) + 1).toNat < n - (i:Int).toNat; omega
   | true =>
    rw [hm] at hA
    have HE:=hid (And.intro (eS_yes (n:=n) hm) (fill_yes (n:=n) hm))
    have hN:=HB.out.1
    have hO:=HB.out.2.1
    have hN2:=HB.out.2.2
    have HC:=hid (show bitsC (wd n fun k => m r k && !eS m r c i i k) 64 = ((List.range n).filter fun k => m r k && !eS m r c i i k).length from bitsC_wd (by omega) _)
    have hp:=wd_u64 (n:=n) (by omega) (fun k => m r k && !eS m r c i i k)
    have hcl:=cnt_le (fun k => m r k && !eS m r c i i k) n
    have HS:=hid (And.intro (H.out.2.1.set i (wv n fun k => (eS m r c i i k || m r k) && !decide (k = c))) (H.out.2.2.set i (wv n fun k => (eS m r c i i k || m r k) && !decide (k = c))))
    rw [HE.out.1] at HS
    unfold wv at HS
    have HX:=hid H.out.1
    generalize wd n (fun k => m r k && !eS m r c i i k) = p at hN HC hp
    generalize wd n (fun k => eS m r c i i k || m r k) = o1 at hO hN2
    generalize wd n (fun k => (eS m r c i i k || m r k) && !decide (k = c)) = o2 at hN2 HS
    have HE:=hid HE.out.2
    generalize ((List.range n).filter fun k => m r k && !eS m r c i i k).length = d at HC HE hcl
    clear hm HB H
    --%C
    go_wp2_with fail
    refine (ones_any p _ hp).mono ?_
    rintro e w3 ⟨rfl,rfl⟩
    rw [HC.out]
    go_wp2_with fail
    refine (bit_any c y _ hc64 HY.out).mono ?_
    rintro e w4 ⟨rfl,rfl⟩
    --%D
    go_wp2_with fail
    --%E
    go_roundw
    case rel => exact ⟨i + 1,x + d,by omega,by omega,by go_num,by go_num,by rw [HE.out,← HX.out],HS.out.1,HS.out.2⟩
    case measure => show n - ((i:Int) + 1).toNat < n - (i:Int).toNat; omega
  ·
   have hii:¬ (i:Int) < (n:Int):=by omega
   obtain rfl:i = n:=by omega
   have HE:=hid (show F = x by rw [HF.out,H.out.1,fillU_all])
   go_wp2_with fail
   go_ret
   exact ⟨by rw [HE.out]; rfl,by rw [← eS_end]; exact H.out.2.1,H.out.2.2⟩
end Sp
end Go.Proofs.Ytojbncpifpghgaa

namespace Go.Proofs.Ytojbncpifpghgaa
open Go.RowKit
open V (RowL RowL.alloc RowL.lt RowL.cell RowL.fz RowL.kept RowL.block RowL.set RowL.far)
namespace Sp
set_option maxRecDepth 100000 in
set_option maxHeartbeats 8000000 in
theorem pattern_any (g n:Nat) (m:Nat→Nat→Bool) (w:World) (h:RowL 73 w g (wrow n m)) (hn:n≤48) :
  Calls Try.prog 22 #[.slice (some ⟨g,0,none⟩) n n] w fun e w' => Kept w w'∧∃ v,e = .returned v∧PatU w.heap.size w' v (thinP n m n):=by
 obtain ⟨i0,hi,hz0,hz1,hz2⟩:=info_parts info_ints
 obtain ⟨i1,hj,hy0,hy1,hy2⟩:=info_parts info_i64
 have HL:=hid h
 clear h
 go_enter Try.func22,Try.ntmps22
 go_wp2_with fail
 go_loopw [3,10] (fun v3 v10 wr => ∃ (i:Nat) (bv:Value),i≤n∧v3 = bv∧v10 = .int .i64 (i:Int)∧Hid (Kept w wr∧PatU w.heap.size wr bv (thinP n m i))) (fun _ v10 _ => n - (intOf v10).toNat)
 case atStart => exact ⟨0,_,Nat.zero_le _,rfl,rfl,Kept.refl _,PatU.nil _ _⟩
 case round =>
  obtain ⟨i,bv,hil,rfl,rfl,H⟩:=hrel
  generalize wr = w1 at H ⊢
  by_cases hit:i < n
  ·
   have hii:(i:Int) < (n:Int):=by omega
   have hi0:(0:Int)≤(i:Int):=by omega
   have c1:w1.cell? ⟨g,i,none⟩ = some (.int .u64 ((wd n (m i):Nat):Int)):=(HL.out.kept H.out.1).cell i _ (vrow_at hit)
   obtain ⟨z,hz⟩:∃ z,z = wd n (m i):=⟨_,rfl⟩
   rw [← hz] at c1
   have HZ:=hid hz
   clear hz
   go_wp2_with fail
   --%A
   go_loopw [6,16] (fun v6 v16 wr => ∃ (k:Nat) (rv:Value),k≤n∧v6 = rv∧v16 = .int .i64 (k:Int)∧Hid (Kept w1 wr∧OwnI w1.heap.size wr rv (thinR m i k))) (fun _ v16 _ => n - (intOf v16).toNat)
   case atStart => exact ⟨0,_,Nat.zero_le _,rfl,rfl,Kept.refl _,World.ownsRow_nil _ _ _ _⟩
   case round =>
    clear c1
    obtain ⟨k,rv,hkl,rfl,rfl,K⟩:=hrel
    by_cases hkt:k < n
    ·
     have hkk:(k:Int) < (n:Int):=by omega
     have hk0:(0:Int)≤(k:Int):=by omega
     have hk64:k < 64:=by omega
     obtain ⟨y,hy⟩:∃ y,y = 2 ^ k:=⟨_,rfl⟩
     have hA:=(and_ne (n:=n) (by omega) hkt hy (m i)).1
     rw [← HZ.out] at hA
     have HY:=hid hy
     clear hy
     have HS:=hid (thinR_step m i k)
     go_wp2_with fail
     refine (bit_any k y _ hk64 HY.out).mono ?_
     rintro e w2 ⟨rfl,rfl⟩
     cases hm:m i k with
     | false =>
      rw [hm] at hA HS
      clear hm
      --%B
      go_wp2_with fail
      go_roundw
      case rel => exact ⟨k + 1,_,by omega,rfl,by go_num,K.out.1,by rw [HS.out,if_neg (by decide)]; exact K.out.2⟩
      case measure => show n - ((k:Int) + 1).toNat < n - (k:Int).toNat; omega
     | true =>
      rw [hm] at hA HS
      clear hm
      have HS1:=hid (show thinR m i (k + 1) = thinR m i k ++ [(k:Int)] by rw [HS.out,if_pos rfl])
      clear HS
      have hll:=thinR_len m i k
      have hsz:=K.out.1.size
      generalize thinR m i k = l at K HS1 hll
      --%C
      go_wp2_with (at_builtin; refine wpList_append_lies _ rfl (.tmp 24) (.tmp 26) 41 rfl w1.heap.size 3 i1 (.int .i64 0) 1 8 und_ints hj hy0 hy1 hy2 rfl (by decide) u6 l.length (l.map (Value.int .i64)) rfl (by exact World.ownsRow.alloc K.out.2 _) ⟨w2.heap.size,0,none⟩ 1 1 [.int .i64 (k:Int)] rfl rfl (cell_new w2 _ _) (fun u hu => by simp at hu; subst hu; rfl) (by omega) (by unfold maxLen; omega) (by omega) (by simp; omega) _ rfl ?_)
      intro G cap w5 hO hgr _ _
      have kA:=(Kept.refl w2).alloc (.cells #[.int .i64 (k:Int)] 3)
      have hOw:=World.ownsRow.alloc K.out.2 (.cells #[.int .i64 (k:Int)] 3)
      generalize w2.alloc (.cells #[.int .i64 (k:Int)] 3) = W5 at kA hgr hOw
      have KW:Kept w1 w5:=Below.grown (K.out.1.trans kA) hgr (K.out.1.trans kA).size (fun k hk => (World.ownsRow.lt hOw k hk).1)
      have HQ:=hid (And.intro KW (OwnI.snoc hO))
      clear kA hOw hgr hO KW
      go_wp2_with fail
      go_roundw
      case rel => exact ⟨k + 1,_,by omega,rfl,by go_num,HQ.out.1,by rw [HS1.out]; exact HQ.out.2⟩
      case measure => show n - ((k:Int) + 1).toNat < n - (k:Int).toNat; omega
    ·
     have hkk:¬ (k:Int) < (n:Int):=by omega
     obtain rfl:n = k:=by omega
     obtain ⟨ra,rcp,hrv⟩:=own_shape K.out.2
     have hrl:=thinR_len m i n
     have HS:=hid (thinP_step n m i)
     have HPL:=hid (thinP_len n m i)
     generalize thinR m i n = l at K HS hrv hrl
     generalize hp:thinP n m i = P at H HS HPL
     clear hp
     subst hrv
     obtain ⟨hs,hgl,hown,hrows⟩:=H.out.2.kept K.out.1
     have HW:=hid (And.intro hgl (And.intro hown hrows))
     have hsz:w.heap.size≤wr.heap.size:=(H.out.1.trans K.out.1).size
     have hpl:P.length = i:=HPL.out
     have HPL:=hid hpl
     have hPb:P.length≤48:=by omega
     clear hgl hown hrows hpl
     --%F
     go_wp2_with (at_builtin; refine wpList_append_lies _ rfl (.tmp 29) (.tmp 31) 32 rfl w.heap.size 41 i0 (.slice none 0 0) 1 24 und_intss hi hz0 hz1 hz2 rfl (by decide) u3 P.length hs rfl (by exact World.ownsRow.alloc HW.out.2.1 _) ⟨wr.heap.size,0,none⟩ 1 1 [.slice ra l.length rcp] rfl rfl (cell_new wr _ _) (fun u hu => by simp at hu; subst hu; rfl) (by omega) (by unfold maxLen; omega) (by omega) (by simp; omega) _ rfl ?_)
     intro G cap w5 hO hgr _ _
     have kA:=(Kept.refl wr).alloc (.cells #[.slice ra l.length rcp] 41)
     have hOw:=World.ownsRow.alloc HW.out.2.1 (.cells #[.slice ra l.length rcp] 41)
     generalize wr.alloc (.cells #[.slice ra l.length rcp] 41) = W5 at kA hgr hOw
     have KW:Kept w w5:=Below.grown ((H.out.1.trans K.out.1).trans kA) hgr ((H.out.1.trans K.out.1).trans kA).size (fun k hk => (World.ownsRow.lt hOw k hk).1)
     have HB:=hid (fun (v:Value) (l:List Int) (hp:OwnI w.heap.size wr v l) => (show OwnI w.heap.size w5 v l from own_kept (own_keptK hp kA) (fun b hb => hgr.block b (World.ownsRow.lt (own_keptK hp kA) b hb).2 (fun e => own_apart (own_keptK hp kA) hOw (by decide) b hb e.symm))))
     have HQ:=hid (And.intro KW (PatU.snoc (w:=wr) (w':=w5) HW.out.1 hO HW.out.2.2 HB.out (own_mono K.out.2 H.out.1.size)))
     clear kA hOw hgr hO KW
     go_wp2_with fail
     go_roundw
     case rel => exact ⟨i + 1,_,by omega,rfl,by go_num,HQ.out.1,by rw [HS.out]; exact HQ.out.2⟩
     case measure => show n - ((i:Int) + 1).toNat < n - (i:Int).toNat; omega
  ·
   have hii:¬ (i:Int) < (n:Int):=by omega
   obtain rfl:i = n:=by omega
   go_wp2_with fail
   go_ret
   exact ⟨H.out.1,_,rfl,H.out.2⟩
end Sp
end Go.Proofs.Ytojbncpifpghgaa

namespace Go.Proofs.Ytojbncpifpghgaa
open Go.RowKit
open V (RowL RowL.alloc RowL.lt RowL.cell RowL.fz RowL.kept RowL.block RowL.set RowL.far)
namespace Sp
set_option maxRecDepth 100000 in
set_option maxHeartbeats 8000000 in
theorem sp_cost (ao:Option Addr) (n c:Nat) (P:List (List Int)) (r k:Int) (w:World) (h:PatR w (.slice ao n c) P) (hn:n≤1000000) (hr:∀ l ∈ P,l.length≤1000000) :
  Calls Try.prog 13 #[.slice ao n c,.int .i64 r,.int .i64 k] w fun e w' => Kept w w'∧e = .returned (.tuple #[.int .i64 (costS P r k).1,.int .i64 (costS P r k).2]):=by
 have hl:=h.len
 have HL:=hid (And.intro h (And.intro hl hr))
 obtain ⟨x,hx⟩:∃ x,x = (costS P r k).1:=⟨_,rfl⟩
 obtain ⟨y,hy⟩:∃ y,y = (costS P r k).2:=⟨_,rfl⟩
 rw [← hx,← hy]
 have HZ:=hid (And.intro hx hy)
 clear h hl hr hx hy
 go_enter Try.func13,Try.ntmps13
 go_wp2_with fail
 refine (sheetOf_any ao n c P _ HL.out.1 hn HL.out.2.2).mono ?_
 rintro e w1 ⟨hk,⟨hok,rfl⟩ | ⟨hok,g,hg,rfl,hS⟩⟩
 ·
  have HK:=hid hk
  have HE:=hid (show x = 0∧y = 130 by rw [HZ.out.1,HZ.out.2]; unfold costS; rw [if_neg (by rw [hok]; decide)]; exact ⟨rfl,rfl⟩)
  clear hk hok
  go_wp2_with fail
  go_ret2
  exact ⟨HK.out,by rw [HE.out.1,HE.out.2]; rfl⟩
 ·
  have HK:=hid hk
  have HS:=hid hS
  have hn48:n≤48:=by have:=okP_len hok; have:=HL.out.2.1; omega
  have HOK:=hid hok
  clear hk hok hS hg
  go_wp2_with fail
  refine (shas_any g n (mP P) r k _ HS.out hn48).mono ?_
  rintro e w2 ⟨hk,rfl⟩
  have HK:=hid (HK.out.trans hk)
  have HS:=hid (HS.out.kept hk)
  clear hk
  cases hh:hasM n (mP P) r k with
  | false =>
   have HE:=hid (show x = 0∧y = 1 by rw [HZ.out.1,HZ.out.2]; unfold costS; rw [if_pos HOK.out,← HL.out.2.1,if_neg (by rw [hh]; decide)]; exact ⟨rfl,rfl⟩)
   clear hh
   go_wp2_with fail
   go_ret2
   exact ⟨HK.out,by rw [HE.out.1,HE.out.2]; rfl⟩
  | true =>
   have HE:=hid (show x = cost n (mP P) r.toNat k.toNat∧y = 0 by rw [HZ.out.1,HZ.out.2]; unfold costS; rw [if_pos HOK.out,← HL.out.2.1,if_pos hh]; exact ⟨rfl,rfl⟩)
   obtain ⟨r',k',rfl,rfl,h1,h2,_⟩:=hasM_in hh
   clear hh
   have hki:(k':Int) < (n:Int):=by omega
   have hk0:(0:Int)≤(k':Int):=by omega
   go_wp2_with fail
   refine (heights_any g n (mP P) _ HS.out hn48).mono ?_
   rintro e w3 ⟨hk,q,hq,rfl,hH⟩
   have HK:=hid (HK.out.trans hk)
   have HS:=hid (HS.out.kept hk)
   have c1:w3.cell? ⟨q,k',none⟩ = some (.int .i64 ((colL n (mP P) k').length:Int)):=hH.cell k' _ (vrow_at h2)
   have hcl:(colL n (mP P) k').length≤n:=cnt_le _ _
   have HC:=hid (show cost n (mP P) r' k' = ((rowL n (mP P) r').length - 1:Int) * ((colL n (mP P) k').length - 1:Int) from rfl)
   generalize (colL n (mP P) k').length = hc at c1 hcl HC
   clear hk hq hH
   go_wp2_with fail
   refine (scost_any g n (mP P) r' hc _ HS.out hn48 h1 hcl).mono ?_
   rintro e w4 ⟨rfl,rfl⟩
   rw [← HC.out]
   go_wp2_with fail
   go_ret2
   exact ⟨HK.out,by rw [HE.out.1,HE.out.2]; rfl⟩
set_option maxRecDepth 100000 in
set_option maxHeartbeats 8000000 in
theorem sp_best (ao:Option Addr) (n c:Nat) (P:List (List Int)) (w:World) (h:PatR w (.slice ao n c) P) (hn:n≤1000000) (hr:∀ l ∈ P,l.length≤1000000) :
  Calls Try.prog 12 #[.slice ao n c] w fun e w' => Kept w w'∧e = .returned (.tuple #[.int .i64 (rO (bestS P):Int),.int .i64 (cO (bestS P):Int),.bool (bestS P).isSome,.int .i64 (chkP P)]):=by
 have hl:=h.len
 have HL:=hid (And.intro h (And.intro hl hr))
 obtain ⟨x,hx⟩:∃ x,x = bestS P:=⟨_,rfl⟩
 obtain ⟨y,hy⟩:∃ y,y = chkP P:=⟨_,rfl⟩
 rw [← hx,← hy]
 have HZ:=hid (And.intro hx hy)
 clear h hl hr hx hy
 go_enter Try.func12,Try.ntmps12
 go_wp2_with fail
 refine (sheetOf_any ao n c P _ HL.out.1 hn HL.out.2.2).mono ?_
 rintro e w1 ⟨hk,⟨hok,rfl⟩ | ⟨hok,g,hg,rfl,hS⟩⟩
 ·
  have HK:=hid hk
  have hc:chkP P = 130:=by unfold chkP; rw [if_neg (by rw [hok]; decide)]
  have HE:=hid (show x = none∧y = 130 by rw [HZ.out.1,HZ.out.2,hc]; unfold bestS; rw [if_neg (by rw [hok]; decide)]; exact ⟨rfl,rfl⟩)
  clear hk hok hc
  go_wp2_with fail
  exact bodyPost_ret (v:=.tuple #[.int .i64 0,.int .i64 0,.bool false,.int .i64 130]) (by simp [results,Try.results12,go_sem]) rfl ⟨HK.out,by rw [HE.out.1,HE.out.2]; rfl⟩
 ·
  have HK:=hid hk
  have HS:=hid hS
  have hn48:n≤48:=by have:=okP_len hok; have:=HL.out.2.1; omega
  have hc:chkP P = 0:=by unfold chkP; rw [if_pos hok]
  have HE:=hid (show x = bestOf n (mP P)∧y = 0 by rw [HZ.out.1,HZ.out.2,hc]; unfold bestS; rw [if_pos hok,← HL.out.2.1]; exact ⟨rfl,rfl⟩)
  clear hk hok hc hS hg
  go_wp2_with fail
  refine (sbest_any g n (mP P) _ HS.out hn48).mono ?_
  rintro e w3 ⟨hk,rfl⟩
  have HK:=hid (HK.out.trans hk)
  clear hk
  generalize bestOf n (mP P) = o at HE
  go_wp2_with fail
  exact bodyPost_ret (v:=.tuple #[.int .i64 (rO o:Int),.int .i64 (cO o:Int),.bool o.isSome,.int .i64 0]) (by simp [results,Try.results12,go_sem]) rfl ⟨HK.out,by rw [HE.out.1,HE.out.2]⟩
set_option maxRecDepth 100000 in
set_option maxHeartbeats 8000000 in
theorem sp_elim (ao:Option Addr) (n c:Nat) (P:List (List Int)) (r k:Int) (w:World) (h:PatR w (.slice ao n c) P) (hn:n≤1000000) (hr:∀ l ∈ P,l.length≤1000000) :
  Calls Try.prog 11 #[.slice ao n c,.int .i64 r,.int .i64 k] w fun e w' => Kept w w'∧∃ v,e = .returned (.tuple #[v,.int .i64 (elimS P r k).2])∧PatU w.heap.size w' v (elimS P r k).1:=by
 have hl:=h.len
 have HL:=hid (And.intro h (And.intro hl hr))
 obtain ⟨x,hx⟩:∃ x,x = (elimS P r k).1:=⟨_,rfl⟩
 obtain ⟨y,hy⟩:∃ y,y = (elimS P r k).2:=⟨_,rfl⟩
 rw [← hx,← hy]
 have HZ:=hid (And.intro hx hy)
 clear h hl hr hx hy
 go_enter Try.func11,Try.ntmps11
 go_wp2_with fail
 refine (sheetOf_any ao n c P _ HL.out.1 hn HL.out.2.2).mono ?_
 rintro e w1 ⟨hk,⟨hok,rfl⟩ | ⟨hok,g,hg,rfl,hS⟩⟩
 ·
  have HK:=hid hk
  have HE:=hid (show x = []∧y = 130 by rw [HZ.out.1,HZ.out.2]; unfold elimS; rw [if_neg (by rw [hok]; decide)]; exact ⟨rfl,rfl⟩)
  clear hk hok
  go_wp2_with fail
  go_ret2
  exact ⟨HK.out,_,by rw [HE.out.2]; rfl,by rw [HE.out.1]; exact PatU.nil _ _⟩
 ·
  have HK:=hid hk
  have HS:=hid hS
  have HG:=hid hg
  have hn48:n≤48:=by have:=okP_len hok; have:=HL.out.2.1; omega
  have HOK:=hid hok
  clear hk hok hS hg
  go_wp2_with fail
  refine (shas_any g n (mP P) r k _ HS.out hn48).mono ?_
  rintro e w2 ⟨hk,rfl⟩
  have HK:=hid (HK.out.trans hk)
  have HS:=hid (HS.out.kept hk)
  clear hk
  cases hh:hasM n (mP P) r k with
  | false =>
   have HE:=hid (show x = []∧y = 1 by rw [HZ.out.1,HZ.out.2]; unfold elimS; rw [if_pos HOK.out,← HL.out.2.1,if_neg (by rw [hh]; decide)]; exact ⟨rfl,rfl⟩)
   clear hh
   go_wp2_with fail
   go_ret2
   exact ⟨HK.out,_,by rw [HE.out.2]; rfl,by rw [HE.out.1]; exact PatU.nil _ _⟩
  | true =>
   have HE:=hid (show x = thinP n (elim (mP P) r.toNat k.toNat) n∧y = 0 by rw [HZ.out.1,HZ.out.2]; unfold elimS; rw [if_pos HOK.out,← HL.out.2.1,if_pos hh]; exact ⟨rfl,rfl⟩)
   obtain ⟨r',k',rfl,rfl,h1,h2,_⟩:=hasM_in hh
   clear hh
   go_wp2_with fail
   refine (selim_any g n (mP P) r' k' _ HS.out hn48 h1 h2).mono ?_
   rintro e w3 ⟨rfl,hE,hO⟩
   have HK:=hid (hO.kept _ HK.out HG.out)
   have HS:=hid hE
   clear hE hO
   go_wp2_with fail
   refine (pattern_any g n _ _ HS.out hn48).mono ?_
   rintro e w5 ⟨hk,t,rfl,hT⟩
   have HQ:=hid (And.intro (HK.out.trans hk) (hT.mono HK.out.size))
   clear hk hT
   go_wp2_with fail
   go_ret2
   exact ⟨HQ.out.1,t,by rw [HE.out.2]; rfl,by rw [HE.out.1]; exact HQ.out.2⟩
end Sp
end Go.Proofs.Ytojbncpifpghgaa

namespace Go.Proofs.Ytojbncpifpghgaa
open Go.RowKit
open V (RowL RowL.alloc RowL.lt RowL.cell RowL.fz RowL.kept RowL.block RowL.set RowL.far)
namespace Sp
structure OrdS (B n g:Nat) (m0:Nat→Nat→Bool) (w:World) (rv cv:Value) (dn:List (Nat × Nat)) (cur:Nat→Nat→Bool) (j:Nat):Prop where
 rows:OwnI B w rv (fstI dn)
 cols:OwnI B w cv (sndI dn)
 apart:∀ b,rv.ownBlock = some b→cv.ownBlock ≠ some b
 mat:RowL 73 w g (wrow n cur)
 all:orderL n n m0 = dn ++ orderL n j cur
 enough:(live n cur).length≤j
 short:dn.length + (live n cur).length≤n
theorem own_only {B g:Nat} {w w':World} {v:Value} {l:List Int} {xs:List Value} (h:OwnI B w v l) (hr:RowL 73 w g xs) (ho:Only g w w'):OwnI B w' v l :=
 own_kept h (fun b hb => ho.block b (fun e => own_row h hr (by decide) (by rw [← e]; exact hb)))
theorem row_grown {B g:Nat} {w w':World} {rv:Value} {len:Nat} {xs ys:List Value} (h:RowL 73 w g xs) (ho:w.ownsRow B 3 1 rv len ys) (hg:w.grownBy w' rv.ownBlock):RowL 73 w' g xs :=
 h.block (hg.block _ h.lt (fun e => own_row ho h (by decide) e.symm))
set_option maxRecDepth 100000 in
set_option maxHeartbeats 8000000 in
theorem sp_order (ao:Option Addr) (n c:Nat) (P:List (List Int)) (w:World) (h:PatR w (.slice ao n c) P) (hn:n≤1000000) (hr:∀ l ∈ P,l.length≤1000000) :
  Calls Try.prog 9 #[.slice ao n c] w fun e w' => Kept w w'∧∃ v u,e = .returned (.tuple #[v,u,.int .i64 (chkP P)])∧OwnI w.heap.size w' v (fstI (orderS P))∧OwnI w.heap.size w' u (sndI (orderS P))∧∀ b,v.ownBlock = some b→u.ownBlock ≠ some b:=by
 have hl:=h.len
 have HL:=hid (And.intro h (And.intro hl hr))
 obtain ⟨i1,hj,hy0,hy1,hy2⟩:=info_parts info_i64
 obtain ⟨x,hx⟩:∃ x,x = orderS P:=⟨_,rfl⟩
 obtain ⟨y,hy⟩:∃ y,y = chkP P:=⟨_,rfl⟩
 rw [← hx,← hy]
 have HZ:=hid (And.intro hx hy)
 clear h hl hr hx hy
 go_enter Try.func9,Try.ntmps9
 go_wp2_with fail
 refine (sheetOf_any ao n c P _ HL.out.1 hn HL.out.2.2).mono ?_
 rintro e w1 ⟨hk,⟨hok,rfl⟩ | ⟨hok,g,hg,rfl,hS⟩⟩
 ·
  have HK:=hid hk
  have hc:chkP P = 130:=by unfold chkP; rw [if_neg (by rw [hok]; decide)]
  have HE:=hid (show x = []∧y = 130 by rw [HZ.out.1,HZ.out.2,hc]; unfold orderS; rw [if_neg (by rw [hok]; decide)]; exact ⟨rfl,rfl⟩)
  clear hk hok hc
  go_wp2_with fail
  go_ret3
  exact ⟨HK.out,_,_,by rw [HE.out.2]; rfl,by rw [HE.out.1]; exact World.ownsRow_nil _ _ _ _,by rw [HE.out.1]; exact World.ownsRow_nil _ _ _ _,fun b hb => by cases hb⟩
 ·
  have hn48:n≤48:=by have:=okP_len hok; have:=HL.out.2.1; omega
  have hc:chkP P = 0:=by unfold chkP; rw [if_pos hok]
  have HE:=hid (show x = orderL n n (mP P)∧y = 0 by rw [HZ.out.1,HZ.out.2,hc]; unfold orderS; rw [if_pos hok,← HL.out.2.1]; exact ⟨rfl,rfl⟩)
  have HG:=hid hg
  have HK:=hid hk
  generalize hm0:mP P = m0 at hS HE
  have HS:=hid hS
  clear hk hok hc hS hg hm0 HZ
  go_wp2_with fail
  refine (sbest_any g n m0 _ HS.out hn48).mono ?_
  rintro e w2 ⟨hk,rfl⟩
  have HK1:=hid (HK.out.trans hk)
  have HM:=hid (HS.out.kept hk)
  clear hk HK HS
  go_wp2_with fail
  --%A
  go_loopw [7,8,9,10,11] (fun v7 v8 v9 v10 v11 wr => ∃ (dn:List (Nat × Nat)) (cur:Nat→Nat→Bool) (j:Nat) (rv cv:Value) (o:Option (Nat × Nat)),v7 = rv∧v8 = cv∧v9 = .int .i64 (rO o:Int)∧v10 = .int .i64 (cO o:Int)∧v11 = .bool o.isSome∧Hid (Kept w wr∧OrdS w.heap.size n g m0 wr rv cv dn cur j∧o = bestOf n cur)) (fun v7 _ _ _ _ _ => n - lenOf v7)
  case atStart => exact ⟨[],m0,n,_,_,_,rfl,rfl,rfl,rfl,rfl,HK1.out,⟨World.ownsRow_nil _ _ _ _,World.ownsRow_nil _ _ _ _,(fun b hb => by cases hb),HM.out,rfl,live_le n m0,by have:=live_le n m0; simpa using this⟩,rfl⟩
  case round =>
   obtain ⟨dn,cur,j,rv,cv,o,rfl,rfl,rfl,rfl,rfl,H⟩:=hrel
   clear HM
   cases o with
   | none =>
    --%N
    have HX:=hid (show x = dn by rw [HE.out.1,H.out.2.1.all,orderL_none H.out.2.2.symm,List.append_nil])
    go_wp2_with fail
    go_ret3
    exact ⟨H.out.1,_,_,by rw [HE.out.2]; rfl,by rw [HX.out]; exact H.out.2.1.rows,by rw [HX.out]; exact H.out.2.1.cols,H.out.2.1.apart⟩
   | some q =>
    --%S
    obtain ⟨q1,q2⟩:=q
    rw [show rO (some (q1,q2)) = q1 from rfl,show cO (some (q1,q2)) = q2 from rfl]
    obtain ⟨j',ho,hle,hlt⟩:=orderL_some H.out.2.2.symm H.out.2.1.enough
    have hq:=best_some.1 H.out.2.2.symm
    have HN:=hid (And.intro (show orderL n n m0 = (dn ++ [(q1,q2)]) ++ orderL n j' (elim cur q1 q2) by rw [H.out.2.1.all,ho,List.append_assoc]; rfl) (And.intro hle (show (dn ++ [(q1,q2)]).length + (live n (elim cur q1 q2)).length≤n by have h1:=H.out.2.1.short; rw [List.length_append]; show dn.length + 1 + _≤n; have h2:(live n (elim cur q1 q2)).length < (live n cur).length:=hlt; omega)))
    have hdl:dn.length + 1≤n:=by have h1:=H.out.2.1.short; have h2:(live n (elim cur q1 q2)).length < (live n cur).length:=hlt; omega
    have HQ:=hid (And.intro hq.row hq.col)
    obtain ⟨l1,hl1⟩:∃ l,l = fstI dn:=⟨_,rfl⟩
    obtain ⟨l2,hl2⟩:∃ l,l = sndI dn:=⟨_,rfl⟩
    have HL12:=hid (And.intro (show fstI (dn ++ [(q1,q2)]) = l1 ++ [(q1:Int)] by rw [hl1]; unfold fstI; rw [List.map_append]; rfl) (show sndI (dn ++ [(q1,q2)]) = l2 ++ [(q2:Int)] by rw [hl2]; unfold sndI; rw [List.map_append]; rfl))
    have hb1:l1.length≤48:=by rw [hl1]; unfold fstI; rw [List.length_map]; omega
    have hb2:l2.length≤48:=by rw [hl2]; unfold sndI; rw [List.length_map]; omega
    have HLN:=hid (show l1.length = dn.length by rw [hl1]; unfold fstI; rw [List.length_map])
    have HR:=hid (And.intro (show OwnI w.heap.size wr u7 l1 by rw [hl1]; exact H.out.2.1.rows) (And.intro (show OwnI w.heap.size wr u8 l2 by rw [hl2]; exact H.out.2.1.cols) (And.intro H.out.2.1.apart H.out.2.1.mat)))
    have HKW:=hid H.out.1
    clear ho hle hlt hq hl1 hl2 H
    have hsz:=HKW.out.size
    --%T
    go_wp2_with (at_builtin; refine wpList_append_lies _ rfl (.tmp 33) (.tmp 35) 41 rfl w.heap.size 3 i1 (.int .i64 0) 1 8 und_ints hj hy0 hy1 hy2 rfl (by decide) u7 l1.length (l1.map (Value.int .i64)) rfl (by exact World.ownsRow.alloc HR.out.1 _) ⟨wr.heap.size,0,none⟩ 1 1 [.int .i64 (q1:Int)] rfl rfl (cell_new wr _ _) (fun u hu => by simp at hu; subst hu; rfl) (by omega) (by unfold maxLen; omega) (by omega) (by simp; omega) _ rfl ?_)
    intro G1 cap1 w5 hO hgr hG _
    have kA:=(Kept.refl wr).alloc (.cells #[.int .i64 (q1:Int)] 3)
    have hOw:=World.ownsRow.alloc HR.out.1 (.cells #[.int .i64 (q1:Int)] 3)
    have hC1:OwnI w.heap.size _ u8 l2:=World.ownsRow.alloc HR.out.2.1 (.cells #[.int .i64 (q1:Int)] 3)
    have hWs:(wr.alloc (.cells #[.int .i64 (q1:Int)] 3)).heap.size = wr.heap.size + 1:=by simp
    generalize wr.alloc (.cells #[.int .i64 (q1:Int)] 3) = W5 at kA hgr hOw hC1 hWs hG
    have KW5:Kept w w5:=Below.grown (HKW.out.trans kA) hgr (HKW.out.trans kA).size (fun k hk => (World.ownsRow.lt hOw k hk).1)
    have hC5:OwnI w.heap.size w5 u8 l2:=hC1.grown (fun b hb e => HR.out.2.2.1 b e hb) hgr
    have hM5:=row_grown (HR.out.2.2.2.kept kA) hOw hgr
    have hA5:∀ b,u8.ownBlock = some b→¬ b = G1:=by
     intro b hb e
     rcases hG with hG | hG
     ·
      exact HR.out.2.2.1 b (by rw [e]; exact hG) hb
     ·
      have:=(World.ownsRow.lt HR.out.2.1 b hb).2
      omega
    have HR5:=hid (And.intro KW5 (And.intro (OwnI.snoc hO) (And.intro hC5 (And.intro hA5 hM5))))
    clear kA hOw hC1 hWs hgr hG hO KW5 hC5 hM5 hA5 hsz
    have hsz:=HR5.out.1.size
    --%U
    go_wp2_with (at_builtin; refine wpList_append_lies _ rfl (.tmp 37) (.tmp 39) 41 rfl w.heap.size 3 i1 (.int .i64 0) 1 8 und_ints hj hy0 hy1 hy2 rfl (by decide) u8 l2.length (l2.map (Value.int .i64)) rfl (by exact World.ownsRow.alloc HR5.out.2.2.1 _) ⟨w5.heap.size,0,none⟩ 1 1 [.int .i64 (q2:Int)] rfl rfl (cell_new w5 _ _) (fun u hu => by simp at hu; subst hu; rfl) (by omega) (by unfold maxLen; omega) (by omega) (by simp; omega) _ rfl ?_)
    intro G2 cap2 w6 hO hgr hG _
    have kA:=(Kept.refl w5).alloc (.cells #[.int .i64 (q2:Int)] 3)
    have hOw:=World.ownsRow.alloc HR5.out.2.2.1 (.cells #[.int .i64 (q2:Int)] 3)
    have hC1:OwnI w.heap.size _ (.slice (some ⟨G1,0,none⟩) (l1.length + 1) cap1) (l1 ++ [(q1:Int)]):=World.ownsRow.alloc HR5.out.2.1 (.cells #[.int .i64 (q2:Int)] 3)
    have hWs:(w5.alloc (.cells #[.int .i64 (q2:Int)] 3)).heap.size = w5.heap.size + 1:=by simp
    generalize w5.alloc (.cells #[.int .i64 (q2:Int)] 3) = W6 at kA hgr hOw hC1 hWs hG
    have KW6:Kept w w6:=Below.grown (HR5.out.1.trans kA) hgr (HR5.out.1.trans kA).size (fun k hk => (World.ownsRow.lt hOw k hk).1)
    have hC6:OwnI w.heap.size w6 (.slice (some ⟨G1,0,none⟩) (l1.length + 1) cap1) (l1 ++ [(q1:Int)]):=hC1.grown (fun b hb e => HR5.out.2.2.2.1 b e (by cases hb; rfl)) hgr
    have hM6:=row_grown (HR5.out.2.2.2.2.kept kA) hOw hgr
    have hA6:¬ G1 = G2:=by
     intro e
     rcases hG with hG | hG
     ·
      exact HR5.out.2.2.2.1 G2 hG e.symm
     ·
      have:=(World.ownsRow.lt HR5.out.2.1 G1 rfl).2
      omega
    have HR6:=hid (And.intro KW6 (And.intro hC6 (And.intro (OwnI.snoc hO) (And.intro hA6 hM6))))
    clear kA hOw hC1 hWs hgr hG hO KW6 hC6 hM6 hA6 hsz HR5
    go_wp2_with fail
    --%V
    refine (selim_any g n cur q1 q2 _ HR6.out.2.2.2.2 hn48 HQ.out.1 HQ.out.2).mono ?_
    rintro e w7 ⟨rfl,hE,hO⟩
    have HR7:=hid (And.intro (hO.kept _ HR6.out.1 HG.out) (And.intro (own_only HR6.out.2.1 HR6.out.2.2.2.2 hO) (And.intro (own_only HR6.out.2.2.1 HR6.out.2.2.2.2 hO) (And.intro HR6.out.2.2.2.1 hE))))
    clear hE hO HR6
    go_wp2_with fail
    refine (sbest_any g n _ _ HR7.out.2.2.2.2 hn48).mono ?_
    rintro e w8 ⟨hk,rfl⟩
    have HR8:=hid (And.intro (HR7.out.1.trans hk) (And.intro (show OwnI w.heap.size w8 _ _ from own_keptK HR7.out.2.1 hk) (And.intro (show OwnI w.heap.size w8 _ _ from own_keptK HR7.out.2.2.1 hk) (And.intro HR7.out.2.2.2.1 (HR7.out.2.2.2.2.kept hk)))))
    clear hk HR7
    go_wp2_with fail
    --%W
    go_roundw
    case rel => exact ⟨dn ++ [(q1,q2)],elim cur q1 q2,j',_,_,_,rfl,rfl,rfl,rfl,rfl,HR8.out.1,⟨by rw [HL12.out.1]; exact HR8.out.2.1,by rw [HL12.out.2]; exact HR8.out.2.2.1,(fun b hb e => HR8.out.2.2.2.1 (by cases hb; cases e; rfl)),HR8.out.2.2.2.2,HN.out.1,HN.out.2.1,HN.out.2.2⟩,rfl⟩
    case measure => show n - (l1.length + 1) < n - lenOf u7; have h1:=lenOf_own HR.out.1; have h2:=HLN.out; omega
set_option maxRecDepth 100000 in
set_option maxHeartbeats 8000000 in
theorem sp_fill (ao:Option Addr) (n c:Nat) (ra:Option Addr) (rn rc:Nat) (ka:Option Addr) (kn kc:Nat) (P:List (List Int)) (rows cols:List Int) (w:World) (h:PatR w (.slice ao n c) P) (hR:ISl w (.slice ra rn rc) rows) (hC:ISl w (.slice ka kn kc) cols) (hn:n≤1000000) (hr:∀ l ∈ P,l.length≤1000000) (hrn:rn≤1000000) :
  Calls Try.prog 10 #[.slice ao n c,.slice ra rn rc,.slice ka kn kc] w fun e w' => Kept w w'∧e = .returned (.tuple #[.int .i64 (fillS P rows cols).1,.int .i64 (fillS P rows cols).2]):=by
 have hl:=h.len
 have HL:=hid (And.intro h (And.intro hl hr))
 have HRC:=hid (And.intro hR (And.intro hC (And.intro hR.len hC.len)))
 obtain ⟨x,hx⟩:∃ x,x = fillS P rows cols:=⟨_,rfl⟩
 rw [← hx]
 have HZ:=hid hx
 clear h hl hr hx hR hC
 go_enter Try.func10,Try.ntmps10
 go_wp2_with fail
 refine (sheetOf_any ao n c P _ HL.out.1 hn HL.out.2.2).mono ?_
 rintro e w1 ⟨hk,⟨hok,rfl⟩ | ⟨hok,g,hg,rfl,hS⟩⟩
 ·
  have HK:=hid hk
  have HE:=hid (show x = (0,130) by rw [HZ.out]; unfold fillS; rw [if_neg (by rw [hok]; decide)])
  clear hk hok
  go_wp2_with fail
  go_ret2
  exact ⟨HK.out,by rw [HE.out]; rfl⟩
 ·
  have hn48:n≤48:=by have:=okP_len hok; have:=HL.out.2.1; omega
  have HOK:=hid hok
  have HG:=hid hg
  have HK:=hid hk
  by_cases hrk:rn = kn
  ·
   have hne:((rn:Int) != (kn:Int)) = false:=by simp [hrk]
   have HE:=hid (show x = fillGo n (mP P) ((rows.zip cols).drop 0) 0 by rw [HZ.out,List.drop_zero]; unfold fillS; rw [if_pos HOK.out,if_pos (by have h1:=HRC.out.2.2.1; have h2:=HRC.out.2.2.2; omega),← HL.out.2.1])
   have HEQ:=hid (show rows.length = cols.length∧rn = rows.length by have h1:=HRC.out.2.2.1; have h2:=HRC.out.2.2.2; omega)
   have HRK:=hid hrk
   generalize hm0:mP P = m0 at hS HE
   have HS:=hid hS
   clear HZ hrk hk hok hg hS hm0
   go_wp2_with fail
   --%A
   go_loopw [10,28] (fun v10 v28 wr => ∃ (i all:Nat) (cur:Nat→Nat→Bool),i≤rn∧all≤i * 2304∧v10 = .int .i64 (all:Int)∧v28 = .int .i64 (i:Int)∧Hid (Kept w wr∧RowL 73 wr g (wrow n cur)∧x = fillGo n cur ((rows.zip cols).drop i) all)) (fun _ v28 _ => rn - (intOf v28).toNat)
   case atStart => exact ⟨0,0,m0,Nat.zero_le _,Nat.zero_le _,rfl,rfl,HK.out,HS.out,HE.out⟩
   case round =>
    clear HE HS HK
    obtain ⟨i,all,cur,hil,hal,rfl,rfl,H⟩:=hrel
    generalize wr = w3 at H ⊢
    by_cases hit:i < rn
    ·
     have hii:(i:Int) < (rn:Int):=by omega
     have hi0:(0:Int)≤(i:Int):=by omega
     have hiK:(i:Int) < (kn:Int):=by have:=HRK.out; omega
     have hiR:i < rows.length:=by have:=HEQ.out.2; omega
     obtain ⟨b1,o1,rfl,hc1⟩:=HRC.out.1.at hiR
     obtain ⟨b2,o2,rfl,hc2⟩:=HRC.out.2.1.at (show i < cols.length by have:=HEQ.out.1; omega)
     have HC:=hid hc2
     have HG2:=hid (show x = if hasM n cur (rows.getD i 0) (cols.getD i 0) = true then fillGo n (elim cur (rows.getD i 0).toNat (cols.getD i 0).toNat) ((rows.zip cols).drop (i + 1)) (all + fillC n cur (rows.getD i 0).toNat (cols.getD i 0).toNat) else (0,1) by rw [H.out.2.2,zip_at hiR HEQ.out.1]; rfl)
     have k1:=hc1 _ H.out.1
     have k2:=hc2 _ H.out.1
     generalize rows.getD i 0 = r at k1 HG2
     generalize cols.getD i 0 = k at k2 HC HG2
     have HK:=hid (And.intro H.out.1 H.out.2.1)
     clear H hc1 hc2
     go_wp2_with fail
     --%B
     refine (shas_any g n cur r k _ HK.out.2 hn48).mono ?_
     rintro e w4 ⟨hk,rfl⟩
     have HK4:=hid (And.intro (HK.out.1.trans hk) (HK.out.2.kept hk))
     clear hk k1 k2 HK
     have k3:=HC.out _ HK4.out.1
     cases hh:hasM n cur r k with
     | false =>
      have HE:=hid (show x = (0,1) by rw [HG2.out,if_neg (by rw [hh]; decide)])
      clear hh HG2
      go_wp2_with fail
      go_ret2
      exact ⟨HK4.out.1,by rw [HE.out]; rfl⟩
     | true =>
      have HE:=hid (show x = fillGo n (elim cur r.toNat k.toNat) ((rows.zip cols).drop (i + 1)) (all + fillC n cur r.toNat k.toNat) by rw [HG2.out,if_pos hh])
      obtain ⟨r,k,rfl,rfl,h1,h2,_⟩:=hasM_in hh
      clear hh HG2
      rw [Int.toNat_natCast,Int.toNat_natCast] at HE
      have hfc:=fillC_le n cur r k hn48
      go_wp2_with fail
      --%D
      refine (selim_any g n cur r k _ HK4.out.2 hn48 h1 h2).mono ?_
      rintro e w5 ⟨rfl,hE,hO⟩
      have HK5:=hid (And.intro (hO.kept _ HK4.out.1 HG.out) hE)
      clear hE hO k3 HK4
      generalize fillC n cur r k = fc at HE hfc
      go_wp2_with fail
      go_roundw
      case rel => exact ⟨i + 1,all + fc,_,by omega,by omega,by go_num,by go_num,HK5.out.1,HK5.out.2,HE.out⟩
      case measure => show rn - ((i:Int) + 1).toNat < rn - (i:Int).toNat; omega
    ·
     have hii:¬ (i:Int) < (rn:Int):=by omega
     have HE:=hid (show x = ((all:Int),0) by rw [H.out.2.2,List.drop_eq_nil_of_le (by rw [List.length_zip]; have:=HEQ.out; omega)]; rfl)
     go_wp2_with fail
     go_ret2
     exact ⟨H.out.1,by rw [HE.out]; rfl⟩
  ·
   have hne:((rn:Int) != (kn:Int)) = true:=by simp; omega
   have HE:=hid (show x = (0,5) by rw [HZ.out]; unfold fillS; rw [if_pos HOK.out,if_neg (by have h1:=HRC.out.2.2.1; have h2:=HRC.out.2.2.2; omega)])
   clear hrk hk hok hg hS
   go_wp2_with fail
   go_ret2
   exact ⟨HK.out,by rw [HE.out]; rfl⟩
end Sp
end Go.Proofs.Ytojbncpifpghgaa

namespace Go.Proofs.Ytojbncpifpghgaa
open Go.RowKit
open V (RowL RowL.alloc RowL.lt RowL.cell RowL.fz RowL.kept RowL.block RowL.set RowL.far)
namespace Sp
set_option maxRecDepth 100000 in
set_option maxHeartbeats 8000000 in
theorem ints_any (a1:Option Addr) (n c1:Nat) (a2:Option Addr) (c2:Nat) (l:List Int) (w:World) (h1:ISl w (.slice a1 n c1) l) (h2:ISl w (.slice a2 n c2) l) (hn:n≤1000000) :
  Calls Try.prog 14 #[.slice a1 n c1,.slice a2 n c2] w fun e w' => Kept w w'∧e = .returned (.bool true):=by
 have hl:=h1.len
 have HL:=hid (And.intro h1 (And.intro h2 hl))
 clear h1 h2 hl
 go_enter Try.func14,Try.ntmps14
 go_wp2_with fail
 go_loopw [5] (fun v5 wr => ∃ (i:Nat),i≤n∧v5 = .int .i64 (i:Int)∧Hid (Kept w wr)) (fun v5 _ => n - (intOf v5).toNat)
 case atStart => exact ⟨0,Nat.zero_le _,rfl,Kept.refl _⟩
 case round =>
  obtain ⟨i,hi,rfl,H⟩:=hrel
  by_cases hit:i < n
  ·
   have hii:(i:Int) < (n:Int):=by omega
   have hi0:(0:Int)≤(i:Int):=by omega
   have HK:=hid (H.out.trans (Kept.refl wr).drew)
   have hiL:i < l.length:=by have:=HL.out.2.2; omega
   obtain ⟨b1,o1,rfl,hd1⟩:=HL.out.1.at hiL
   obtain ⟨b2,o2,rfl,hd2⟩:=HL.out.2.1.at hiL
   have k1:=hd1 _ HK.out
   have k2:=hd2 _ HK.out
   clear hd1 hd2
   generalize l.getD i 0 = x at k1 k2
   go_upto_region 6 with fail
   refine wp_region_held_drew (S:=fun w' => w'.cell? ⟨b1,o1 + i,none⟩ = some (.int .i64 x)∧w'.cell? ⟨b2,o2 + i,none⟩ = some (.int .i64 x)) (by kernel_rfl) ⟨k1,k2⟩ (fun hHeld => ?_)
   clear k1 k2
   generalize wr.drew = Wd at HK hHeld ⊢
   refine tk 0 hHeld ?_
   refine tk 1 hHeld ?_
   refine tk 2 hHeld ?_
   refine tk 3 hHeld ?_
   refine tk 4 hHeld ?_
   refine tk 5 hHeld ?_
   refine tk 6 hHeld ?_
   refine tk 7 hHeld ?_
   refine tk 8 hHeld ?_
   refine _root_.Go.Proofs.Ytojbncpifpghgaa.dn ?_
   clear hHeld
   go_wp2_with fail
   go_roundw
   case rel => exact ⟨i + 1,by omega,by go_num,HK.out⟩
   case measure => show n - ((i:Int) + 1).toNat < n - (i:Int).toNat; omega
  ·
   have hii:¬ (i:Int) < (n:Int):=by omega
   go_wp2_with fail
   go_ret
   exact ⟨H.out,rfl⟩
theorem isl_row {w:World} {p n c:Nat} {l:List Int} (h:RowL 3 w p (l.map (Value.int .i64))) (hn:n = l.length):ISl w (.slice (some ⟨p,0,none⟩) n c) l:=by
 subst hn
 refine ⟨_,_,rfl,fun _ => ⟨p,0,rfl,h.lt,fun j hj => ?_⟩⟩
 rw [Nat.zero_add]
 refine h.cell j _ ?_
 rw [List.getElem?_map,List.getD_eq_getElem?_getD,List.getElem?_eq_getElem hj]
 rfl
theorem isl_nil {w:World}:ISl w (.slice none 0 0) []:=⟨none,0,rfl,fun h => absurd h (by decide)⟩
theorem pat_row {w:World} {q n c:Nat} {hs:List Value} {P:List (List Int)} (h:RowL 41 w q hs) (hn:n = P.length) (hr:∀ i,i < P.length→∃ ra rc,hs[i]? = some (.slice ra (P.getD i []).length rc)∧ISl w (.slice ra (P.getD i []).length rc) (P.getD i [])):PatR w (.slice (some ⟨q,0,none⟩) n c) P:=by
 subst hn
 refine ⟨_,_,rfl,fun _ => ⟨q,0,rfl,h.lt,fun i hi => ?_⟩⟩
 obtain ⟨ra,rc,h1,h2⟩:=hr i hi
 refine ⟨ra,rc,?_,h2⟩
 rw [Nat.zero_add]
 exact h.cell i _ h1
def pA:List (List Int):=[[0,1,2],[0,1],[0,2]]
theorem pA_len:∀ l ∈ pA,l.length≤1000000:=by decide
theorem a_order:orderS pA = [(1,1),(0,0),(2,2)]:=by kernel_rfl
theorem a_chk:chkP pA = 0:=by kernel_rfl
theorem a_fill:fillS pA [0,1,2] [0,1,2] = (2,0):=by kernel_rfl
theorem a_elim:elimS pA 1 1 = ([[0,2],[],[0,2]],0):=by kernel_rfl
theorem a_best:bestS pA = some (1,1):=by kernel_rfl
theorem a_cost:costS pA 0 0 = (4,0):=by kernel_rfl
theorem a_bad:chkP [[1]] = 130:=by kernel_rfl
theorem alloc_size (w:World) (o:Obj):(w.alloc o).heap.size = w.heap.size + 1:=by simp
theorem lit3 (w:World) (x1 x2 x3:List Int):Kept w ((((w.alloc (.cells (x1.map (Value.int .i64)).toArray 3)).alloc (.cells (x2.map (Value.int .i64)).toArray 3)).alloc (.cells (x3.map (Value.int .i64)).toArray 3)).alloc (.cells #[.slice (some ⟨w.heap.size,0,none⟩) x1.length x1.length,.slice (some ⟨w.heap.size + 1,0,none⟩) x2.length x2.length,.slice (some ⟨w.heap.size + 1 + 1,0,none⟩) x3.length x3.length] 41)) ∧
  PatR ((((w.alloc (.cells (x1.map (Value.int .i64)).toArray 3)).alloc (.cells (x2.map (Value.int .i64)).toArray 3)).alloc (.cells (x3.map (Value.int .i64)).toArray 3)).alloc (.cells #[.slice (some ⟨w.heap.size,0,none⟩) x1.length x1.length,.slice (some ⟨w.heap.size + 1,0,none⟩) x2.length x2.length,.slice (some ⟨w.heap.size + 1 + 1,0,none⟩) x3.length x3.length] 41)) (.slice (some ⟨w.heap.size + 1 + 1 + 1,0,none⟩) 3 3) [x1,x2,x3]:=by
 have r1:=RowL.alloc 3 w (x1.map (Value.int .i64))
 have k1:=(Kept.refl w).alloc (.cells (x1.map (Value.int .i64)).toArray 3)
 have s1:=alloc_size w (.cells (x1.map (Value.int .i64)).toArray 3)
 generalize w.alloc (.cells (x1.map (Value.int .i64)).toArray 3) = W1 at r1 k1 s1 ⊢
 have r2:=RowL.alloc 3 W1 (x2.map (Value.int .i64))
 have k2:=(Kept.refl W1).alloc (.cells (x2.map (Value.int .i64)).toArray 3)
 have s2:=alloc_size W1 (.cells (x2.map (Value.int .i64)).toArray 3)
 generalize W1.alloc (.cells (x2.map (Value.int .i64)).toArray 3) = W2 at r2 k2 s2 ⊢
 have r3:=RowL.alloc 3 W2 (x3.map (Value.int .i64))
 have k3:=(Kept.refl W2).alloc (.cells (x3.map (Value.int .i64)).toArray 3)
 have s3:=alloc_size W2 (.cells (x3.map (Value.int .i64)).toArray 3)
 generalize W2.alloc (.cells (x3.map (Value.int .i64)).toArray 3) = W3 at r3 k3 s3 ⊢
 have r4:=RowL.alloc 41 W3 [.slice (some ⟨w.heap.size,0,none⟩) x1.length x1.length,.slice (some ⟨w.heap.size + 1,0,none⟩) x2.length x2.length,.slice (some ⟨w.heap.size + 1 + 1,0,none⟩) x3.length x3.length]
 have k4:=(Kept.refl W3).alloc (.cells #[.slice (some ⟨w.heap.size,0,none⟩) x1.length x1.length,.slice (some ⟨w.heap.size + 1,0,none⟩) x2.length x2.length,.slice (some ⟨w.heap.size + 1 + 1,0,none⟩) x3.length x3.length] 41)
 rw [s3,s2,s1] at r4
 rw [s2,s1] at r3
 rw [s1] at r2
 refine ⟨((k1.trans k2).trans k3).trans k4,pat_row r4 rfl (fun i hi => ?_)⟩
 match i,hi with
 | 0,_ => exact ⟨_,_,rfl,isl_row (((r1.kept k2).kept k3).kept k4) rfl⟩
 | 1,_ => exact ⟨_,_,rfl,isl_row ((r2.kept k3).kept k4) rfl⟩
 | 2,_ => exact ⟨_,_,rfl,isl_row (r3.kept k4) rfl⟩
theorem lit2 (w:World) (x1 x2:List Int):Kept w (((w.alloc (.cells (x1.map (Value.int .i64)).toArray 3)).alloc (.cells (x2.map (Value.int .i64)).toArray 3)).alloc (.cells #[.slice (some ⟨w.heap.size,0,none⟩) x1.length x1.length,.slice none 0 0,.slice (some ⟨w.heap.size + 1,0,none⟩) x2.length x2.length] 41)) ∧
  PatR (((w.alloc (.cells (x1.map (Value.int .i64)).toArray 3)).alloc (.cells (x2.map (Value.int .i64)).toArray 3)).alloc (.cells #[.slice (some ⟨w.heap.size,0,none⟩) x1.length x1.length,.slice none 0 0,.slice (some ⟨w.heap.size + 1,0,none⟩) x2.length x2.length] 41)) (.slice (some ⟨w.heap.size + 1 + 1,0,none⟩) 3 3) [x1,[],x2]:=by
 have r1:=RowL.alloc 3 w (x1.map (Value.int .i64))
 have k1:=(Kept.refl w).alloc (.cells (x1.map (Value.int .i64)).toArray 3)
 have s1:=alloc_size w (.cells (x1.map (Value.int .i64)).toArray 3)
 generalize w.alloc (.cells (x1.map (Value.int .i64)).toArray 3) = W1 at r1 k1 s1 ⊢
 have r2:=RowL.alloc 3 W1 (x2.map (Value.int .i64))
 have k2:=(Kept.refl W1).alloc (.cells (x2.map (Value.int .i64)).toArray 3)
 have s2:=alloc_size W1 (.cells (x2.map (Value.int .i64)).toArray 3)
 generalize W1.alloc (.cells (x2.map (Value.int .i64)).toArray 3) = W2 at r2 k2 s2 ⊢
 have r4:=RowL.alloc 41 W2 [.slice (some ⟨w.heap.size,0,none⟩) x1.length x1.length,.slice none 0 0,.slice (some ⟨w.heap.size + 1,0,none⟩) x2.length x2.length]
 have k4:=(Kept.refl W2).alloc (.cells #[.slice (some ⟨w.heap.size,0,none⟩) x1.length x1.length,.slice none 0 0,.slice (some ⟨w.heap.size + 1,0,none⟩) x2.length x2.length] 41)
 rw [s2,s1] at r4
 rw [s1] at r2
 refine ⟨(k1.trans k2).trans k4,pat_row r4 rfl (fun i hi => ?_)⟩
 match i,hi with
 | 0,_ => exact ⟨_,_,rfl,isl_row ((r1.kept k2).kept k4) rfl⟩
 | 1,_ => exact ⟨_,_,rfl,isl_nil⟩
 | 2,_ => exact ⟨_,_,rfl,isl_row (r2.kept k4) rfl⟩
theorem lit1 (w:World) (x1:List Int):Kept w ((w.alloc (.cells (x1.map (Value.int .i64)).toArray 3)).alloc (.cells #[.slice (some ⟨w.heap.size,0,none⟩) x1.length x1.length] 41)) ∧
  PatR ((w.alloc (.cells (x1.map (Value.int .i64)).toArray 3)).alloc (.cells #[.slice (some ⟨w.heap.size,0,none⟩) x1.length x1.length] 41)) (.slice (some ⟨w.heap.size + 1,0,none⟩) 1 1) [x1]:=by
 have r1:=RowL.alloc 3 w (x1.map (Value.int .i64))
 have k1:=(Kept.refl w).alloc (.cells (x1.map (Value.int .i64)).toArray 3)
 have s1:=alloc_size w (.cells (x1.map (Value.int .i64)).toArray 3)
 generalize w.alloc (.cells (x1.map (Value.int .i64)).toArray 3) = W1 at r1 k1 s1 ⊢
 have r4:=RowL.alloc 41 W1 [.slice (some ⟨w.heap.size,0,none⟩) x1.length x1.length]
 have k4:=(Kept.refl W1).alloc (.cells #[.slice (some ⟨w.heap.size,0,none⟩) x1.length x1.length] 41)
 rw [s1] at r4
 refine ⟨k1.trans k4,pat_row r4 rfl (fun i hi => ?_)⟩
 match i,hi with
 | 0,_ => exact ⟨_,_,rfl,isl_row (r1.kept k4) rfl⟩
set_option maxRecDepth 100000 in
set_option maxHeartbeats 8000000 in
theorem awake13_any (w:World):Calls Try.prog 4 #[] w fun e w' => Kept w w'∧e = .returned (.bool true):=by
 have hA:=lit3 w [0,1,2] [0,1] [0,2]
 go_enter Try.func4,Try.ntmps4
 go_wp2_with fail
 --%A
 have hA:Kept w ((((w.alloc (.cells #[.int .i64 0,.int .i64 1,.int .i64 2] 3)).alloc (.cells #[.int .i64 0,.int .i64 1] 3)).alloc (.cells #[.int .i64 0,.int .i64 2] 3)).alloc (.cells #[.slice (some ⟨w.heap.size,0,none⟩) 3 3,.slice (some ⟨w.heap.size + 1,0,none⟩) 2 2,.slice (some ⟨w.heap.size + 1 + 1,0,none⟩) 2 2] 41))∧PatR ((((w.alloc (.cells #[.int .i64 0,.int .i64 1,.int .i64 2] 3)).alloc (.cells #[.int .i64 0,.int .i64 1] 3)).alloc (.cells #[.int .i64 0,.int .i64 2] 3)).alloc (.cells #[.slice (some ⟨w.heap.size,0,none⟩) 3 3,.slice (some ⟨w.heap.size + 1,0,none⟩) 2 2,.slice (some ⟨w.heap.size + 1 + 1,0,none⟩) 2 2] 41)) (.slice (some ⟨w.heap.size + 1 + 1 + 1,0,none⟩) 3 3) pA:=hA
 generalize (((w.alloc (.cells #[.int .i64 0,.int .i64 1,.int .i64 2] 3)).alloc (.cells #[.int .i64 0,.int .i64 1] 3)).alloc (.cells #[.int .i64 0,.int .i64 2] 3)).alloc (.cells #[.slice (some ⟨w.heap.size,0,none⟩) 3 3,.slice (some ⟨w.heap.size + 1,0,none⟩) 2 2,.slice (some ⟨w.heap.size + 1 + 1,0,none⟩) 2 2] 41) = W at hA ⊢
 generalize w.heap.size + 1 + 1 + 1 = q at hA ⊢
 have HA:=hid hA
 clear hA
 refine (sp_order _ 3 3 pA _ HA.out.2 (by omega) pA_len).mono ?_
 rintro e w1 ⟨hk,v,u,rfl,hv,hu,_⟩
 rw [a_order] at hv hu
 rw [a_chk]
 have HA:=hid (And.intro (HA.out.1.trans hk) (HA.out.2.kept hk))
 obtain ⟨va,vc,rfl⟩:=own_shape hv
 obtain ⟨ua,uc,rfl⟩:=own_shape hu
 have HV:=hid (And.intro (show ISl w1 (.slice va 3 vc) [1,0,2] from OwnI.isl hv) (show ISl w1 (.slice ua 3 uc) [1,0,2] from OwnI.isl hu))
 rw [show (fstI [(1,1),(0,0),(2,2)]).length = 3 from rfl,show (sndI [(1,1),(0,0),(2,2)]).length = 3 from rfl]
 clear hk hv hu
 --%B
 have r1:=RowL.alloc 3 w1 [.int .i64 0,.int .i64 1,.int .i64 2]
 have k1:=(Kept.refl w1).alloc (.cells #[.int .i64 0,.int .i64 1,.int .i64 2] 3)
 have s1:=alloc_size w1 (.cells #[.int .i64 0,.int .i64 1,.int .i64 2] 3)
 have r2:=RowL.alloc 3 (w1.alloc (.cells #[.int .i64 0,.int .i64 1,.int .i64 2] 3)) [.int .i64 0,.int .i64 1,.int .i64 2]
 have k2:=(Kept.refl (w1.alloc (.cells #[.int .i64 0,.int .i64 1,.int .i64 2] 3))).alloc (.cells #[.int .i64 0,.int .i64 1,.int .i64 2] 3)
 rw [s1] at r2
 have HF:=hid (And.intro (k1.trans k2) (And.intro (r1.kept k2) r2))
 clear r1 k1 s1 r2 k2
 go_wp2_with fail
 --%C
 refine (sp_fill _ 3 3 _ 3 3 _ 3 3 pA [0,1,2] [0,1,2] _ (HA.out.2.kept HF.out.1) (isl_row HF.out.2.1 rfl) (isl_row HF.out.2.2 rfl) (by omega) pA_len (by omega)).mono ?_
 rintro e w2 ⟨hk,rfl⟩
 rw [a_fill]
 have HA:=hid (And.intro ((HA.out.1.trans HF.out.1).trans hk) ((HA.out.2.kept HF.out.1).kept hk))
 have HV:=hid (And.intro ((HV.out.1.kept HF.out.1).kept hk) ((HV.out.2.kept HF.out.1).kept hk))
 clear hk HF
 go_wp2_with fail
 refine (sp_elim _ 3 3 pA 1 1 _ HA.out.2 (by omega) pA_len).mono ?_
 rintro e w3 ⟨hk,t,rfl,hT⟩
 rw [a_elim] at hT ⊢
 obtain ⟨ta,tc,rfl⟩:=hT.shape
 have HA:=hid (And.intro (HA.out.1.trans hk) (HA.out.2.kept hk))
 have HV:=hid (And.intro (HV.out.1.kept hk) (HV.out.2.kept hk))
 have HT:=hid (show PatR w3 (.slice ta 3 tc) [[0,2],[],[0,2]] from hT.pat)
 rw [show ([[0,2],[],[0,2]]:List (List Int)).length = 3 from rfl]
 clear hk hT
 --%D
 go_wp2_with fail
 refine (sp_best _ 3 3 pA _ HA.out.2 (by omega) pA_len).mono ?_
 rintro e w4 ⟨hk,rfl⟩
 rw [a_best,a_chk]
 have HA:=hid (And.intro (HA.out.1.trans hk) (HA.out.2.kept hk))
 have HV:=hid (And.intro (HV.out.1.kept hk) (HV.out.2.kept hk))
 have HT:=hid (HT.out.kept hk)
 clear hk
 go_wp2_with fail
 refine (sp_cost _ 3 3 pA 0 0 _ HA.out.2 (by omega) pA_len).mono ?_
 rintro e w5 ⟨hk,rfl⟩
 rw [a_cost]
 have HA:=hid (And.intro (HA.out.1.trans hk) (HA.out.2.kept hk))
 have HV:=hid (And.intro (HV.out.1.kept hk) (HV.out.2.kept hk))
 have HT:=hid (HT.out.kept hk)
 clear hk
 have r1:=RowL.alloc 3 w5 [.int .i64 1,.int .i64 0,.int .i64 2]
 have k1:=(Kept.refl w5).alloc (.cells #[.int .i64 1,.int .i64 0,.int .i64 2] 3)
 have HF:=hid (And.intro k1 r1)
 clear r1 k1
 --%E
 go_wp2_with fail
 --%F
 refine (ints_any va 3 vc _ 3 [1,0,2] _ (HV.out.1.kept HF.out.1) (isl_row HF.out.2 rfl) (by omega)).mono ?_
 rintro e w6 ⟨hk,rfl⟩
 have HA:=hid (And.intro ((HA.out.1.trans HF.out.1).trans hk) ((HA.out.2.kept HF.out.1).kept hk))
 have HV:=hid (And.intro ((HV.out.1.kept HF.out.1).kept hk) ((HV.out.2.kept HF.out.1).kept hk))
 have HT:=hid ((HT.out.kept HF.out.1).kept hk)
 clear hk HF
 go_wp2_with fail
 refine (ints_any ua 3 uc va vc [1,0,2] _ HV.out.2 HV.out.1 (by omega)).mono ?_
 rintro e w7 ⟨hk,rfl⟩
 have HK:=hid (HA.out.1.trans hk)
 have HT:=hid (HT.out.kept hk)
 clear hk HA HV
 have hB:=lit2 w7 [0,2] [0,2]
 have hB:Kept w7 (((w7.alloc (.cells #[.int .i64 0,.int .i64 2] 3)).alloc (.cells #[.int .i64 0,.int .i64 2] 3)).alloc (.cells #[.slice (some ⟨w7.heap.size,0,none⟩) 2 2,.slice none 0 0,.slice (some ⟨w7.heap.size + 1,0,none⟩) 2 2] 41))∧PatR (((w7.alloc (.cells #[.int .i64 0,.int .i64 2] 3)).alloc (.cells #[.int .i64 0,.int .i64 2] 3)).alloc (.cells #[.slice (some ⟨w7.heap.size,0,none⟩) 2 2,.slice none 0 0,.slice (some ⟨w7.heap.size + 1,0,none⟩) 2 2] 41)) (.slice (some ⟨w7.heap.size + 1 + 1,0,none⟩) 3 3) [[0,2],[],[0,2]]:=hB
 have HB:=hid hB
 clear hB
 go_wp2_with fail
 --%G
 refine (same_any ta 3 tc _ 3 [[0,2],[],[0,2]] _ (HT.out.kept HB.out.1) HB.out.2 (by omega) (by decide)).mono ?_
 rintro e w8 ⟨hk,rfl⟩
 have HK:=hid ((HK.out.trans HB.out.1).trans hk)
 clear hk HB HT
 have hB:=lit1 w8 [1]
 have hB:Kept w8 ((w8.alloc (.cells #[.int .i64 1] 3)).alloc (.cells #[.slice (some ⟨w8.heap.size,0,none⟩) 1 1] 41))∧PatR ((w8.alloc (.cells #[.int .i64 1] 3)).alloc (.cells #[.slice (some ⟨w8.heap.size,0,none⟩) 1 1] 41)) (.slice (some ⟨w8.heap.size + 1,0,none⟩) 1 1) [[1]]:=hB
 have HB:=hid hB
 clear hB
 go_wp2_with fail
 --%H
 refine (sp_check _ 1 1 [[1]] _ HB.out.2 (by omega) (by decide)).mono ?_
 rintro e w9 ⟨hk,rfl⟩
 rw [a_bad]
 have HK:=hid ((HK.out.trans HB.out.1).trans hk)
 clear hk HB
 go_wp2_with fail
 go_ret
 exact ⟨HK.out,rfl⟩
end Sp
end Go.Proofs.Ytojbncpifpghgaa

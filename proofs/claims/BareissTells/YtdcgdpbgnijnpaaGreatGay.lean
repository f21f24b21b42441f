/- Solve, whole. Small numbers, rows and lists that literals make; what a list of whole numbers is. -/
import Derived.Test.YtdcgdpbgnijnpaaGreatMya
import Derived.Test.YtdcgdpbgnijnpaaGreatGav
import Derived.Test.YtdcgdpbgnijnpaaGreatGaw
import Derived.Test.YtdcgdpbgnijnpaaGreatGan
namespace Go.Proofs.YtdcgdpbgnijnpaaGreat
open Go.RowKit
open Ba (stg lastP pivs wideZ facS Fits)
namespace Bp
theorem solve_full (B fb n m limbs:Nat) (sa:Option Addr) (sc:Nat) (Ss:List StC) (M:Nat→Nat→Int) (bq:Nat→Bool) (b:Nat→Int) (ps:List (Nat × Nat)) (bo:Option Addr) (bc:Nat) (w:World) (h:FacR B w fb n limbs sa n sc Ss M ps) (hf:Fits n M ps) (hl:ps.length = n) (hs:facS n limbs M = (ps,0)) (hL:limbs≤32) (hn:n≤48) (hm:m≤1000000) (hq:IsL (ZQ bq) w (.slice bo m bc) m) (hI:(∀ j,j < m→bq j = true)→IL b w (.slice bo m bc) m) (hnil:bo = none→m = 0) :
  Calls Tryz.prog 13 #[.pointer (some ⟨fb,0,none⟩),.slice bo m bc] w (SolIs w n m limbs bq M b ps (bkA n M b ps)) :=
 solve_any B fb n m limbs sa sc Ss M bq b ps (bkA n M b ps) bo bc w h hf hl hs hL hn hm hq hI hnil fun W K uo uc hu hW => back_any B fb n limbs sa sc Ss M b ps uo uc W (h.kept K) hf hl hs hL hn hu hW
end Bp
end Go.Proofs.YtdcgdpbgnijnpaaGreat

namespace Go.Proofs.YtdcgdpbgnijnpaaGreat
open Go.RowKit
open V (RowL RowL.alloc RowL.lt RowL.cell RowL.fz RowL.kept)
open Sp (hid)
open Sy
open Bm (ZI ZI.kept ZI.of MxR ZsR mxr_at mxr_kept zsr_at zsr_kept cel_at mOk)
open Ba (stg lastP pivs wideZ facS Fits)
namespace Bp
theorem one_right {m:Nat} (h:0 < m) (h2:m < 4294967296):M.Right false [m]:=⟨fun x hx => by rw [List.mem_singleton.1 hx]; exact h2,.inr (by show m ≠ 0; omega),by show 1≤72; decide,fun h => by cases h⟩
theorem one_int (m:Nat):M.int false [m] = (m:Int):=by unfold M.int M.val; simp [M.val]
theorem one_eq {m:Nat} (h:0 < m) (h2:m < 4294967296) {s:Bool} {l:List Nat} (hr:M.Right s l) (hi:M.int s l = (m:Int)):s = false∧l = [m] :=
 M.int_inj hr (one_right h h2) (hi.trans (one_int m).symm)
theorem cell1_any (c x:Int) (m:Nat) (w:World) (hx:x = (m:Int)) (h:0 < m) (h2:m < 4294967296) :
  Calls Tryz.prog 16 #[.int .i64 c,.int .i64 x] w fun e w' => Kept w w'∧∃ ao cap,e = .returned (.agg #[.int .i64 c,.bool false,.slice ao 1 cap])∧ZE.ok w' ⟨false,ao,cap,[m]⟩:=by
 subst hx
 refine (Bm.cell14_any c (m:Int) w (by omega) (by omega)).mono ?_
 rintro e w' ⟨hk,s,ao,k,cap,l,rfl,hn,hr,hi⟩
 obtain ⟨rfl,rfl⟩:=one_eq h h2 hr hi
 have e1:=hn.sl.len
 subst e1
 exact ⟨hk,ao,cap,rfl,hn.sl,by show 1≤9223372036854775807; decide⟩
theorem of1_any (x:Int) (m:Nat) (w:World) (hx:x = (m:Int)) (h:0 < m) (h2:m < 4294967296) :
  Calls Tryz.prog 17 #[.int .i64 x] w fun e w' => Kept w w'∧∃ ao cap,e = .returned (.agg #[.bool false,.slice ao 1 cap])∧ZE.ok w' ⟨false,ao,cap,[m]⟩:=by
 subst hx
 refine (of_any (m:Int) w (by omega) (by omega)).mono ?_
 rintro e w' ⟨hk,s,ao,k,cap,l,rfl,hn,hr,hi⟩
 obtain ⟨rfl,rfl⟩:=one_eq h h2 hr hi
 have e1:=hn.sl.len
 subst e1
 exact ⟨hk,ao,cap,rfl,hn.sl,by show 1≤9223372036854775807; decide⟩
theorem ze_zi {w:World} {ao:Option Addr} {cap m:Nat} (h:ZE.ok w ⟨false,ao,cap,[m]⟩) (h1:0 < m) (h2:m < 4294967296):ZI w false (.slice ao 1 cap) (m:Int):=⟨[m],h.1,one_right h1 h2,one_int m⟩
theorem same_eq14 (m n:Bool) (ao bo:Option Addr) (k cap j cbp:Nat) (x y:Int) (w:World) (ha:ZI w m (.slice ao k cap) x) (hb:ZI w n (.slice bo j cbp) y) (h:x = y) :
  Calls Tryz.prog 11 #[.agg #[.bool m,.slice ao k cap],.agg #[.bool n,.slice bo j cbp]] w fun e w' => Kept w w'∧e = .returned (.bool true):=by
 refine (Bm.same14_any m n ao bo k cap j cbp x y w ha hb).mono ?_
 rintro e w' ⟨hk,rfl⟩
 rw [decide_eq_true h]
 exact ⟨hk,rfl⟩
theorem csr_row2 {w:World} {p:Nat} {c1 c2:CE} (r:RowL 39 w p (c1.cells ++ c2.cells)) (h1:c1.ok w) (h2:c2.ok w):CsR w (some ⟨p,0,none⟩) [c1,c2]:=fun _ => ⟨p,0,rfl,r.lt,fun i hi => by
 match i,hi with
 | 0,_ => exact ⟨fun j u hu => by change c1.cells[j]? = some u at hu; rw [show 0 + 0 * 3 + j = j by omega]; exact r.cell j u (by rw [List.getElem?_append_left (List.getElem?_eq_some_iff.1 hu).1]; exact hu),h1⟩
 | 1,_ => exact ⟨fun j u hu => by change c2.cells[j]? = some u at hu; rw [show 0 + 1 * 3 + j = 3 + j by omega]; exact r.cell (3 + j) u (by rw [List.getElem?_append_right (show c1.cells.length≤3 + j by show 3≤3 + j; omega),show 3 + j - c1.cells.length = j by show 3 + j - 3 = j; omega]; exact hu),h2⟩⟩
theorem mxr_row2 {w:World} {p:Nat} {l1 l2:LE} (r:RowL 34 w p [l1.v,l2.v]) (h1:CsR w l1.ao l1.cs) (h2:CsR w l2.ao l2.cs):MxR w (some ⟨p,0,none⟩) [l1,l2]:=fun _ => ⟨p,0,rfl,r.lt,fun i hi => by
 match i,hi with
 | 0,_ => exact ⟨fun j u hu => by
   match j,hu with
   | 0,hu => cases hu; exact r.cell 0 _,h1⟩
 | 1,_ => exact ⟨fun j u hu => by
   match j,hu with
   | 0,hu => cases hu; exact r.cell 1 _,h2⟩⟩
theorem zsr_row2 {w:World} {p:Nat} {z1 z2:ZE} (r:RowL 37 w p (z1.cells ++ z2.cells)) (h1:z1.ok w) (h2:z2.ok w):ZsR w (some ⟨p,0,none⟩) [z1,z2]:=fun _ => ⟨p,0,rfl,r.lt,fun i hi => by
 match i,hi with
 | 0,_ => exact ⟨fun j u hu => by change z1.cells[j]? = some u at hu; rw [show 0 + 0 * 2 + j = j by omega]; exact r.cell j u (by rw [List.getElem?_append_left (List.getElem?_eq_some_iff.1 hu).1]; exact hu),h1⟩
 | 1,_ => exact ⟨fun j u hu => by change z2.cells[j]? = some u at hu; rw [show 0 + 1 * 2 + j = 2 + j by omega]; exact r.cell (2 + j) u (by rw [List.getElem?_append_right (show z1.cells.length≤2 + j by show 2≤2 + j; omega),show 2 + j - z1.cells.length = j by show 2 + j - 2 = j; omega]; exact hu),h2⟩⟩
def zsF (L:List ZE) (j:Nat):Int:=M.int (L.getD j ⟨false,none,0,[]⟩).neg (L.getD j ⟨false,none,0,[]⟩).lim
def zsB (L:List ZE) (j:Nat):Bool:=(L.getD j ⟨false,none,0,[]⟩).right
theorem getD_in {α:Type} {L:List α} {d:α} {j:Nat} (hj:j < L.length):L.getD j d = L[j]:=by rw [List.getD_eq_getElem?_getD,List.getElem?_eq_getElem hj]; rfl
theorem zsr_q {w:World} {ao:Option Addr} {L:List ZE} (h:ZsR w ao L) (n c:Nat) (hn:n = L.length):IsL (ZQ (zsB L)) w (.slice ao n c) n:=by
 subst hn
 refine ⟨ao,c,rfl,fun h0 => ?_⟩
 obtain ⟨b,off,rfl,hb,hx⟩:=h h0
 refine ⟨b,off,rfl,hb,fun j hj => ?_⟩
 obtain ⟨h1,h2⟩:=hx j hj
 refine ⟨L[j].neg,L[j].ao,L[j].lim.length,L[j].cap,by have:=h1 0 _ rfl; rw [Nat.add_zero] at this; exact this,h1 1 _ rfl,L[j].lim,h2.1,h2.2,?_⟩
 unfold zsB
 rw [getD_in hj]
 exact right_R
theorem zsr_il {w:World} {ao:Option Addr} {L:List ZE} (h:ZsR w ao L) (n c:Nat) (hn:n = L.length) (hr:∀ j,j < n→zsB L j = true):IL (zsF L) w (.slice ao n c) n:=by
 subst hn
 refine ⟨ao,c,rfl,fun h0 => ?_⟩
 obtain ⟨b,off,rfl,hb,hx⟩:=h h0
 refine ⟨b,off,rfl,hb,fun j hj => ?_⟩
 obtain ⟨h1,h2⟩:=hx j hj
 have h3:=hr j hj
 unfold zsB at h3
 rw [getD_in hj] at h3
 refine ⟨L[j].neg,L[j].ao,L[j].lim.length,L[j].cap,by have:=h1 0 _ rfl; rw [Nat.add_zero] at this; exact this,h1 1 _ rfl,?_⟩
 unfold zsF
 dsimp only
 rw [getD_in hj]
 exact ZI.of h2 h3
theorem zsr_nil {w:World} {ao:Option Addr} {L:List ZE} (h:ZsR w ao L) (n:Nat) (hn:n = L.length):ao = none→n = 0:=fun e => by
 rcases Nat.eq_zero_or_pos n with h0 | h0
 ·
  exact h0
 ·
  obtain ⟨b,off,e2,_⟩:=h (by omega)
  rw [e] at e2
  cases e2
end Bp
end Go.Proofs.YtdcgdpbgnijnpaaGreat

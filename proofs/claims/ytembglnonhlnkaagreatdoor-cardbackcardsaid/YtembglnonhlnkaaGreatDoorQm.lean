/- Decimal numbers with letters: what a text says, and the one text of a number: arithmetic of bytes alone. -/
import Derived.Test.YtembglnonhlnkaaGreatDoorDecm
import Derived.Lib.TrimByte
namespace Go.Proofs.YtembglnonhlnkaaGreatDoor
namespace Q
def isd (c:UInt8):Bool:=decide (48≤c.toNat∧c.toNat≤57)
def dgs (L:List UInt8):List UInt8:=L.takeWhile isd
def rst (L:List UInt8):List UInt8:=L.dropWhile isd
def hd (c:UInt8) (L:List UInt8):Bool:=decide (L.head? = some c)
def cutB (c:UInt8) (L:List UInt8):List UInt8:=if hd c L then L.tail else L
def names:List (List UInt8 × Int):=[([102],-15),([112],-12),([110],-9),([117],-6),([109],-3),([],0),([107],3),([109,101,103],6),([103],9),([116],12)]
def lettOf (L:List UInt8):Option Int:=(names.find? fun p => decide (p.1 = L)).map (·.2)
def behindE (L:List UInt8):List UInt8:=if hd 45 (cutB 101 L) then cutB 45 (cutB 101 L) else cutB 43 (cutB 101 L)
def powOf (L:List UInt8):Option Int :=
  match lettOf L with
  | some e => some e
  | none => if hd 101 L = true∧rst (behindE L) = []∧1≤(dgs (behindE L)).length∧(dgs (behindE L)).length≤2 then some (if hd 45 (cutB 101 L) then -(dv (dgs (behindE L)):Int) else dv (dgs (behindE L))) else none
def pnt (L:List UInt8):Bool:=hd 46 (rst (cutB 45 L))
def beh (L:List UInt8):List UInt8:=if pnt L then dgs (cutB 46 (rst (cutB 45 L))) else []
def tl (L:List UInt8):List UInt8:=if pnt L then rst (cutB 46 (rst (cutB 45 L))) else cutB 46 (rst (cutB 45 L))
def readOf (L:List UInt8):Option (Bool × List UInt8 × Int) :=
  if 32 < L.length then none else
  match powOf (tl L) with
  | none => none
  | some x => if dgs (cutB 45 L) = [] ∨ (pnt L = true∧beh L = []) then none else some (hd 45 L,dgs (cutB 45 L) ++ beh L,x - (beh L).length)
def okN (m x:Int):Bool:=if m = 0 then decide (x = 0) else decide (-999999999≤m∧m≤999999999∧m.tmod 10 ≠ 0∧-18≤x∧x≤9)
def trz (D:List UInt8):List UInt8:=Lib.trimRightB D 48
def numOf (neg:Bool) (D:List UInt8) (x:Int):Option (Int × Int) :=
  if trz D = [] then some (0,0) else
  if dv (trz D) < 9223372036854775808∧okN (if neg then -(dv (trz D):Int) else dv (trz D)) (x + D.length - (trz D).length) = true then some (if neg then -(dv (trz D):Int) else dv (trz D),x + D.length - (trz D).length) else none
def fin:Option (Int × Int)→Int × Int × Int
  | none => (0,0,30)
  | some p => (p.1,p.2,0)
def parseOf (L:List UInt8):Int × Int × Int :=
  match readOf L with
  | none => (0,0,3)
  | some r => fin (numOf r.1 r.2.1 r.2.2)
theorem parseOf_none {L:List UInt8} (h:readOf L = none):parseOf L = (0,0,3):=by unfold parseOf; rw [h]
theorem parseOf_some {L D:List UInt8} {n:Bool} {x:Int} (h:readOf L = some (n,D,x)):parseOf L = fin (numOf n D x):=by unfold parseOf; rw [h]
def below (x:Int):Option (List UInt8 × Int):=names.foldl (fun a p => if p.2≤x then some p else a) none
def textOf (m x:Int):List UInt8 :=
  match below x with
  | none => Lib.itoa m ++ [101] ++ Lib.itoa x
  | some (n,p) => Lib.itoa m ++ List.replicate (x - p).toNat 48 ++ n
theorem isd_iff {c:UInt8}:isd c = true ↔ 48≤c.toNat∧c.toNat≤57:=by simp [isd]
theorem dig_isd {D:List UInt8} (h:Dig D):∀ c ∈ D,isd c = true:=fun c hc => isd_iff.2 (h c hc)
theorem dgs_dig (L:List UInt8):Dig (dgs L):=by
  induction L with
  | nil => intro c hc; simp [dgs] at hc
  | cons a t ih =>
    unfold dgs at ih ⊢
    rw [List.takeWhile_cons]
    split
    · intro c hc
      rcases List.mem_cons.1 hc with rfl | h
      · exact isd_iff.1 (by assumption)
      · exact ih c h
    · intro c hc; simp at hc
theorem dgs_rst (L:List UInt8):dgs L ++ rst L = L:=List.takeWhile_append_dropWhile
theorem cut_at {D T:List UInt8} (h:Dig D) (ht:∀ c,T.head? = some c→isd c = false):dgs (D ++ T) = D∧rst (D ++ T) = T:=by
  induction D with
  | nil =>
    cases T with
    | nil => exact ⟨rfl,rfl⟩
    | cons a t =>
      have:=ht a rfl
      simp [dgs,rst,this]
  | cons a t ih =>
    have h1:isd a = true:=dig_isd h a (by simp)
    have h2:=ih (fun c hc => h c (by simp [hc]))
    unfold dgs rst at h2 ⊢
    rw [List.cons_append,List.takeWhile_cons,if_pos h1,List.dropWhile_cons,if_pos h1,h2.1,h2.2]
    exact ⟨rfl,rfl⟩
theorem hd_cons (c a:UInt8) (t:List UInt8):hd c (a :: t) = decide (a = c):=by simp [hd]
theorem cutB_yes {c:UInt8} {L:List UInt8} (h:hd c L = true):L = c :: cutB c L:=by
  unfold cutB; rw [if_pos h]
  cases L with
  | nil => simp [hd] at h
  | cons a t => simp [hd] at h; subst h; rfl
theorem cutB_no {c:UInt8} {L:List UInt8} (h:hd c L = false):cutB c L = L:=by unfold cutB; rw [if_neg (by simp [h])]
theorem hd_self (c:UInt8) (t:List UInt8):hd c (c :: t) = true:=by simp [hd]
theorem cutB_self (c:UInt8) (t:List UInt8):cutB c (c :: t) = t:=by unfold cutB; rw [if_pos (hd_self c t)]; rfl
theorem hd_dig {c:UInt8} {D T:List UInt8} (hD:Dig D) (hne:D ≠ []) (hc:isd c = false):hd c (D ++ T) = false:=by
  obtain ⟨a,t,rfl⟩:=List.exists_cons_of_ne_nil hne
  rw [List.cons_append,hd_cons]
  apply decide_eq_false
  intro e; subst e
  rw [dig_isd hD a (by simp)] at hc; cases hc
def sg (n:Bool):List UInt8:=if n then [45] else []
theorem sg_cut {n:Bool} {D T:List UInt8} (hD:Dig D) (hne:D ≠ []):hd 45 (sg n ++ (D ++ T)) = n∧cutB 45 (sg n ++ (D ++ T)) = D ++ T:=by
  cases n
  · have:hd 45 (D ++ T) = false:=hd_dig hD hne (by decide)
    exact ⟨this,cutB_no this⟩
  · exact ⟨hd_self _ _,cutB_self _ _⟩
theorem read_plain {n:Bool} {D T:List UInt8} {x:Int} (hD:Dig D) (hne:D ≠ []) (ht:∀ c,T.head? = some c→isd c = false) (h46:hd 46 T = false) (hx:powOf T = some x) (hl:(sg n ++ (D ++ T)).length≤32):readOf (sg n ++ (D ++ T)) = some (n,D,x):=by
  obtain ⟨e1,e2⟩:=sg_cut (n:=n) (T:=T) hD hne
  obtain ⟨e3,e4⟩:=cut_at hD ht
  have ep:pnt (sg n ++ (D ++ T)) = false:=by unfold pnt; rw [e2,e4,h46]
  have eb:beh (sg n ++ (D ++ T)) = []:=by unfold beh; rw [ep]; rfl
  have et:tl (sg n ++ (D ++ T)) = T:=by unfold tl; rw [ep,e2,e4,cutB_no h46]; rfl
  unfold readOf
  rw [if_neg (by omega),et,hx]
  show (if _ then none else some _) = _
  rw [e2,e3,ep,eb,e1,if_neg (by simp [hne])]
  simp
theorem trz_snoc0 (D:List UInt8):trz (D ++ [48]) = trz D:=by simp [trz,Lib.trimRightB]
theorem trz_zeros (D:List UInt8) (k:Nat):trz (D ++ List.replicate k 48) = trz D:=by
  induction k with
  | zero => simp
  | succ k ih => rw [List.replicate_succ',← List.append_assoc,trz_snoc0,ih]
theorem trz_keep (D:List UInt8) (c:UInt8) (h:c ≠ 48):trz (D ++ [c]) = D ++ [c]:=by
  have:(c == 48) = false:=by simpa using h
  simp [trz,Lib.trimRightB,this]
theorem trz_spec:∀ D:List UInt8,∃ k,D = trz D ++ List.replicate k 48∧(trz D = [] ∨ ∃ E c,trz D = E ++ [c]∧c ≠ 48):=by
  refine snocInd ⟨0,by simp [trz,Lib.trimRightB],.inl (by simp [trz,Lib.trimRightB])⟩ ?_
  intro l c ih
  by_cases h:c = 48
  · subst h
    obtain ⟨k,e,h⟩:=ih
    refine ⟨k + 1,?_,?_⟩
    · rw [trz_snoc0,List.replicate_succ',← List.append_assoc,← e]
    · rw [trz_snoc0]; exact h
  · exact ⟨0,by rw [trz_keep l c h]; simp,.inr ⟨l,c,trz_keep l c h,h⟩⟩
theorem trz_len (D:List UInt8):(trz D).length≤D.length:=by
  obtain ⟨k,e,_⟩:=trz_spec D
  have:=congrArg List.length e
  simp at this; omega
theorem trz_dig {D:List UInt8} (h:Dig D):Dig (trz D):=by
  obtain ⟨k,e,_⟩:=trz_spec D
  intro c hc
  exact h c (by rw [e]; simp [hc])
theorem okN_iff {m x:Int}:okN m x = true ↔ (m = 0∧x = 0) ∨ (m ≠ 0∧-999999999≤m∧m≤999999999∧m.tmod 10 ≠ 0∧-18≤x∧x≤9):=by
  unfold okN
  by_cases h:m = 0
  · simp [h]
  · rw [if_neg h]; simp [h]
theorem tmod_abs (m:Int):m.tmod 10 ≠ 0 ↔ m.natAbs % 10 ≠ 0:=by
  rcases Int.natAbs_eq m with h | h <;> generalize m.natAbs = u at h <;> subst h
  · rw [show ((u:Int).tmod 10) = ((u % 10:Nat):Int) from rfl]; omega
  · rw [Int.neg_tmod,show ((u:Int).tmod 10) = ((u % 10:Nat):Int) from rfl]; omega
theorem dec_trz {u:Nat} (h:u % 10 ≠ 0):trz (Lib.decDigits u) = Lib.decDigits u:=by
  rw [Lib.decDigits]
  split
  · have:u < 10:=by assumption
    have:=trz_keep [] (UInt8.ofNat (48 + u)) (fun e => by have:=congrArg UInt8.toNat e; rw [ofNat_digit (by omega)] at this; simp at this; omega)
    simpa using this
  · exact trz_keep _ _ (fun e => by have:=congrArg UInt8.toNat e; rw [ofNat_digit (by omega)] at this; simp at this; omega)
theorem dec_ne (u:Nat):Lib.decDigits u ≠ []:=by
  rw [Lib.decDigits]; split <;> simp
theorem itoa_sg (m:Int):Lib.itoa m = sg (decide (m < 0)) ++ Lib.decDigits m.natAbs:=by
  unfold Lib.itoa sg
  by_cases h:m < 0
  · rw [if_pos h,decide_eq_true h]; rfl
  · rw [if_neg h,decide_eq_false h,show m.toNat = m.natAbs by omega]; rfl
theorem num_back {m x p:Int} {k:Nat} (h:okN m x = true) (hk:x = p + k) (h0:m = 0→k = 0):numOf (decide (m < 0)) (Lib.decDigits m.natAbs ++ List.replicate k 48) p = some (m,x):=by
  unfold numOf
  rw [trz_zeros]
  rcases okN_iff.1 h with ⟨rfl,rfl⟩ | ⟨hm,h1,h2,h3,h4,h5⟩
  · rw [show Lib.decDigits (Int.natAbs 0) = [48] by rw [Lib.decDigits]; rfl,show trz [48] = [] from rfl,if_pos rfl]
  · rw [dec_trz ((tmod_abs m).1 h3),if_neg (dec_ne _),dec_dv]
    have e1:(if decide (m < 0) = true then -(m.natAbs:Int) else (m.natAbs:Int)) = m:=by
      by_cases hn:m < 0
      · rw [if_pos (decide_eq_true hn)]; omega
      · rw [if_neg (by simpa using hn)]; omega
    have e2:p + ((Lib.decDigits m.natAbs ++ List.replicate k 48).length:Int) - (Lib.decDigits m.natAbs).length = x:=by
      rw [List.length_append,List.length_replicate]; omega
    rw [e1,e2,if_pos ⟨by omega,h⟩]
theorem pow_name {p:List UInt8 × Int} (h:p ∈ names):powOf p.1 = some p.2∧(∀ c,p.1.head? = some c→isd c = false)∧hd 46 p.1 = false∧p.1.length≤3:=by
  unfold names at h
  simp only [List.mem_cons,List.not_mem_nil,or_false] at h
  rcases h with rfl | rfl | rfl | rfl | rfl | rfl | rfl | rfl | rfl | rfl <;> exact ⟨rfl,by simp <;> decide,rfl,by decide⟩
theorem below_cases {x:Int} (hx:x≤9):(x < -15∧below x = none) ∨ ∃ n p,below x = some (n,p)∧(n,p) ∈ names∧p≤x∧x≤p + 2:=by
  by_cases h1:x < -15
  · left; refine ⟨h1,?_⟩
    simp only [below,names,List.foldl_cons,List.foldl_nil]
    repeat rw [if_neg (by omega)]
  · right
    have key:∀ y:Int,-15≤y→y≤9→∃ n p,below y = some (n,p)∧(n,p) ∈ names∧p≤y∧y≤p + 2:=by
      intro y h2 h3
      have hc:y = -15 ∨ y = -14 ∨ y = -13 ∨ y = -12 ∨ y = -11 ∨ y = -10 ∨ y = -9 ∨ y = -8 ∨ y = -7 ∨ y = -6 ∨ y = -5 ∨ y = -4 ∨ y = -3 ∨ y = -2 ∨ y = -1 ∨ y = 0 ∨ y = 1 ∨ y = 2 ∨ y = 3 ∨ y = 4 ∨ y = 5 ∨ y = 6 ∨ y = 7 ∨ y = 8 ∨ y = 9:=by omega
      rcases hc with rfl | rfl | rfl | rfl | rfl | rfl | rfl | rfl | rfl | rfl | rfl | rfl | rfl | rfl | rfl | rfl | rfl | rfl | rfl | rfl | rfl | rfl | rfl | rfl | rfl <;> exact ⟨_,_,rfl,by decide,by decide,by decide⟩
    exact key x (by omega) hx
theorem dec_len {u k:Nat} (hk:0 < k) (h:u < 10 ^ k):(Lib.decDigits u).length≤k:=by
  induction k generalizing u with
  | zero => omega
  | succ k ih =>
    rw [Lib.decDigits]
    split
    · simp
    · rw [List.length_append,List.length_singleton]
      by_cases h0:k = 0
      · subst h0; omega
      · have:=ih (u:=u / 10) (by omega) (by rw [Nat.pow_succ] at h; omega)
        omega
theorem back {m x:Int} (h:okN m x = true):parseOf (textOf m x) = (m,x,0)∧(textOf m x).length≤15:=by
  have hx:-18≤x∧x≤9∧m.natAbs≤999999999∧(m = 0→x = 0):=by
    rcases okN_iff.1 h with ⟨rfl,rfl⟩ | ⟨hm,h1,h2,h3,h4,h5⟩
    · decide
    · omega
  have hl := dec_len (u := m.natAbs) (k := 9) (by decide) (by have : (10 : Nat) ^ 9 = 1000000000 := by decide
                                                              omega)
  have hs:(sg (decide (m < 0))).length≤1:=by unfold sg; split <;> simp
  have hD:Dig (Lib.decDigits m.natAbs):=dec_dig _
  rcases below_cases hx.2.1 with ⟨h1,hb⟩ | ⟨n,p,hb,hn,h2,h3⟩
  · have ht:textOf m x = sg (decide (m < 0)) ++ (Lib.decDigits m.natAbs ++ (101 :: Lib.itoa x)):=by unfold textOf; rw [hb,itoa_sg m]; simp
    have hc:x = -18 ∨ x = -17 ∨ x = -16:=by omega
    have hp:powOf (101 :: Lib.itoa x) = some x∧(Lib.itoa x).length = 3:=by
      rcases hc with rfl | rfl | rfl <;> exact ⟨by simp [Lib.itoa,Lib.decDigits]; rfl,by simp [Lib.itoa,Lib.decDigits]⟩
    have hlen:(sg (decide (m < 0)) ++ (Lib.decDigits m.natAbs ++ (101 :: Lib.itoa x))).length≤15:=by
      simp only [List.length_append,List.length_cons,hp.2]; omega
    rw [ht]
    refine ⟨?_,hlen⟩
    rw [parseOf_some (read_plain hD (dec_ne _) (fun c hc => by simp at hc; subst hc; decide) (by rw [hd_cons]; decide) hp.1 (by omega))]
    have:=num_back (k:=0) h (p:=x) (by omega) (fun _ => rfl)
    rw [List.replicate_zero,List.append_nil] at this
    rw [this]; rfl
  · obtain ⟨q1,q2,q3,q4⟩:=pow_name hn
    have ht:textOf m x = sg (decide (m < 0)) ++ ((Lib.decDigits m.natAbs ++ List.replicate (x - p).toNat 48) ++ n):=by unfold textOf; rw [hb,itoa_sg m]; simp
    have hlen:(sg (decide (m < 0)) ++ ((Lib.decDigits m.natAbs ++ List.replicate (x - p).toNat 48) ++ n)).length≤15:=by
      simp only [List.length_append,List.length_replicate]; simp only at q4; omega
    rw [ht]
    refine ⟨?_,hlen⟩
    rw [parseOf_some (read_plain (T:=n) (hD.append (fun c hc => by rw [List.mem_replicate] at hc; rw [hc.2]; decide)) (by simp [dec_ne]) q2 q3 q1 (by omega))]
    have h0:m = 0→(x - p).toNat = 0:=by
      intro hm
      have:=hx.2.2.2 hm
      subst this
      have:below 0 = some ([],0):=rfl
      rw [this] at hb; simp at hb; omega
    rw [num_back (p:=p) h (by omega) h0]; rfl
theorem parse_ok (L:List UInt8):(parseOf L = (0,0,3)) ∨ (parseOf L = (0,0,30)) ∨ ∃ m x,parseOf L = (m,x,0)∧okN m x = true:=by
  cases er:readOf L with
  | none => exact .inl (parseOf_none er)
  | some r =>
    obtain ⟨n,D,x⟩:=r
    rw [parseOf_some er]
    cases e:numOf n D x with
    | none => exact .inr (.inl rfl)
    | some r =>
      obtain ⟨m,y⟩:=r
      refine .inr (.inr ⟨m,y,rfl,?_⟩)
      unfold numOf at e
      split at e
      · cases e; rfl
      · generalize (if n = true then -(dv (trz D):Int) else (dv (trz D):Int)) = z at e
        split at e
        · have hh:dv (trz D) < 9223372036854775808∧okN z (x + D.length - (trz D).length) = true:=by assumption
          cases e; exact hh.2
        · cases e
end Q
end Go.Proofs.YtembglnonhlnkaaGreatDoor

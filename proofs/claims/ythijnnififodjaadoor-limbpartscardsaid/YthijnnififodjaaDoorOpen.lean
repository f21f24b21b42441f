/- A whole number that came in as an argument: what its reading gives the walks. -/
import Derived.Test.YthijnnififodjaaDoorBase
import Derived.Test.YthijnnififodjaaDoorRows
import Derived.Test.YthijnnififodjaaDoorTie
import Derived.Test.YthijnnififodjaaDoorCards
import Derived.ProofKit
import Derived.LaidMore
import Derived.OpenShut
import Derived.Stop.Joined
import Derived.Lib.SmallJoins
import Derived.SevenTiedAt
namespace Go.Proofs.YthijnnififodjaaDoor
open Go.ChangeShapes Go.WideShapes Go.ChangeAt Go.RowKit Go.Joins

theorem own : ownKnob Tryd.prog.godebug = none := by kernel_rfl
theorem laidOut : laidOutB Tryd.prog = true := by kernel_rfl
theorem Tryd.cells24 : Tryd.prog.cellsOf 24 = 2 := by kernel_rfl
theorem Tryd.cells43 : Tryd.prog.cellsOf 43 = 1 := by kernel_rfl

theorem wf_u32 {n : Int} (h : (Lit.int .u32 n).wf = true) : 0 ≤ n ∧ n < 4294967296 := by
  have := bounds_u32 h
  omega

theorem Sl.of_open {W : World} {a : Addr} {len cap : Nat} {zs : List Int} (hl : len ≤ cap) (hz : zs.length = cap) (hcell : ∀ i, i < zs.length → W.cell? (a.add i) = some (.int .u32 (zs.getD i 0)))
    (hwf : ∀ n ∈ zs, (Lit.int .u32 n).wf = true) : ∃ l, l.length = len ∧ Sl W (.slice (some a) len cap) l := by
  have hlen : ((zs.take len).map Int.toNat).length = len := by rw [List.length_map, List.length_take]; omega
  refine ⟨(zs.take len).map Int.toNat, hlen, fun x hx => ?_, some a, cap, by rw [hlen], fun h0 => ?_⟩
  · rw [List.mem_map] at hx
    obtain ⟨n, hn, rfl⟩ := hx
    have := wf_u32 (hwf n (List.mem_of_mem_take hn))
    omega
  · rw [hlen] at h0 ⊢
    refine ⟨hl, ?_⟩
    obtain ⟨b, off, spot⟩ := a
    have hc0 := hcell 0 (by omega)
    have hspot : spot = none := by simpa [Addr.add] using World.cell?_spot hc0
    subst hspot
    refine ⟨b, off, rfl, World.block_lt_of_cell? W _ (by simpa [Addr.add] using hc0), fun j hj => ?_⟩
    have hcj := hcell j (by omega)
    have e1 : (((zs.take len).map Int.toNat).getD j 0 : Nat) = (zs.getD j 0).toNat := by
      rw [List.getD_eq_getElem?_getD, List.getElem?_map, List.getElem?_take_of_lt hj, List.getElem?_eq_getElem (by omega), List.getD_eq_getElem?_getD, List.getElem?_eq_getElem (by omega)]; rfl
    have e2 : 0 ≤ zs.getD j 0 := by
      rw [List.getD_eq_getElem?_getD, List.getElem?_eq_getElem (by omega)]
      exact (wf_u32 (hwf _ (List.getElem_mem (by omega)))).1
    rw [e1, Int.toNat_of_nonneg e2, ← hcj]
    by_cases hj0 : j = 0
    · subst hj0; rfl
    · simp [Addr.add, hj0]

set_option maxRecDepth 100000 in
theorem open_Int {H : Type} {enc : TypeId × Value → H} {W : World} {r : Reach} {b0 : Nat} {v : Value} {d : DataW H} {p : List MemPlace} (hv : Value.okWide Tryd.prog W r b0 24 v)
    (h : DataW.Trod enc Tryd.prog W 0 (fun _ => true) true 24 v d p) : ∃ m ao len cap l, v = .agg #[.bool m, .slice ao len cap] ∧ Sl W (.slice ao len cap) l ∧ l.length ≤ 9223372036854775807 := by
  obtain ⟨c0, c1, y0, y1, n, rfl, _, _, h0, h1⟩ := open_agg2 Tryd.underlying24 (by kernel_rfl) Tryd.cells24 hv h
  obtain ⟨m, e0, _⟩ := DataW.trod_bool Tryd.underlying4 h0
  simp at e0
  subst e0
  rcases open_ints Tryd.underlying22 Tryd.underlying43 Tryd.cells43 h1 with ⟨hcs, _⟩ | ⟨a, len, cap, zs, hcs, _, hl, hm, hz, _, hcell, hwz⟩
  · simp at hcs
    subst hcs
    exact ⟨m, none, 0, 0, [], rfl, Sl.nil _ _ _, by simp⟩
  · simp at hcs
    subst hcs
    obtain ⟨l, hll, hs⟩ := Sl.of_open hl (by simpa using hz) hcell hwz
    refine ⟨m, some a, len, cap, l, rfl, hs, ?_⟩
    rw [hll]
    unfold maxLen at hm
    omega

end Go.Proofs.YthijnnififodjaaDoor

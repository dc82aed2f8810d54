/-
  An argument of type [][]byte: what it reads as.
-/
import Derived.Test.YtabhmjaellagmaaDoorLMem
import Derived.Deep.Matrix
namespace Go.Proofs.YtabhmjaellagmaaDoor
open Go.RowKit Go.Deep

theorem rsl_of_trod {H : Type} {enc : TypeId × Value → H} {P : Program} {w : World} {held : Bool} {fuel : Nat} {L T E : TypeId} {x : DataW H × List MemPlace} {a : Option Addr} {len cap : Nat}
    (hL : P.underlying L = some (.slice T)) (hT : P.underlying T = some (.slice E)) (hE : P.underlying E = some (.int .u8)) (ce : P.cellsOf T = 1) (cq : P.cellsOf E = 1)
    (h : DataW.trod enc P w 0 (fun _ => true) held fuel L [.slice a len cap] = some x) : ∃ ls, ls.length = len ∧ RsL w (.slice a len cap) ls := by
  rcases open_int_rows hL hT hE ce cq h with ⟨hcs, _⟩ | ⟨a', len', cap', A, Lf, C, Z, hcs, _, hl, hm, _, hr⟩
  · simp only [List.cons.injEq, Value.slice.injEq, and_true] at hcs
    obtain ⟨rfl, rfl, rfl⟩ := hcs
    exact ⟨[], rfl, RdL.nil _ _⟩
  · simp only [List.cons.injEq, Value.slice.injEq, and_true] at hcs
    obtain ⟨rfl, rfl, rfl⟩ := hcs
    refine ⟨(List.range len).map (fun r => bytesOf ((Z r).take (Lf r))), by simp, some a', cap, by simp, by simpa using hl, (fun h => by cases h), fun b hb j hj => ?_⟩
    obtain rfl := Option.some.inj hb
    have hj' : j < len := by simpa using hj
    obtain ⟨h1, h2, h3, h4, h5, h6, h7⟩ := hr j (by omega)
    have hlen : (bytesOf ((Z j).take (Lf j))).length = Lf j := by simp [bytesOf]; omega
    refine ⟨_, h1, ?_, ?_⟩
    · have := World.block_lt_of_cell? w _ h1
      rwa [add_block] at this
    · simp only [List.getElem_map, List.getElem_range]
      refine ⟨A j, C j, by rw [hlen], by omega, h6, fun b hb i u hu => ?_⟩
      obtain ⟨hi, rfl⟩ := cellsOf_get hu
      have hi' : i < (Z j).length := by omega
      have hc := (h7 b hb).2 i (by omega)
      have hw := h5 ((Z j)[i]) (List.getElem_mem hi')
      have e : ((Z j).getD i 0) = (((bytesOf ((Z j).take (Lf j)))[i]).toNat : Int) := by
        have e1 : IntKind.u8.min = 0 := rfl
        have e2 : IntKind.u8.max = 255 := rfl
        simp only [Lit.wf, e1, e2, Bool.and_eq_true, decide_eq_true_eq] at hw
        simp [bytesOf, List.getD, hi']
        omega
      rw [hc, e]
      refine ⟨rfl, ?_⟩
      have := World.block_lt_of_cell? w _ hc
      rwa [add_block] at this

end Go.Proofs.YtabhmjaellagmaaDoor

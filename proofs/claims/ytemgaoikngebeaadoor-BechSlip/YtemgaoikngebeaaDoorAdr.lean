/-
  Plain mathematics of addresses: a script's version and program, the word, and back.
-/
import Derived.Test.YtemgaoikngebeaaDoorBck
import Derived.Test.YtemgaoikngebeaaDoorBts
namespace Go.Proofs.YtemgaoikngebeaaDoor

def en : List UInt8 := [101, 110]
def verOk (f : UInt8) : Bool := decide (f.toNat = 0) || (decide (80 < f.toNat) && decide (f.toNat ≤ 96))
def verOf (f : UInt8) : UInt8 := if f.toNat = 0 then 0 else UInt8.ofNat (f.toNat - 80)
/-- Is it the script of a version and a program? -/
def scOk (c : List UInt8) : Bool := decide (4 ≤ c.length) && (decide (c.length ≤ 42) && (decide ((c.getD 1 0).toNat = c.length - 2) && verOk (c.getD 0 0)))
def adrD (c : List UInt8) : List UInt8 := verOf (c.getD 0 0) :: spr (c.drop 2)
def adrL (c : List UInt8) : List UInt8 := if scOk c = true then encL en (adrD c) else []
def adrE (c : List UInt8) : Int := if scOk c = true then encE en (adrD c) else 1
theorem adr_ok {c : List UInt8} (k : scOk c = true) : adrL c = encL en (adrD c) ∧ adrE c = encE en (adrD c) := ⟨if_pos k, if_pos k⟩
theorem adr_no {c : List UInt8} (k : scOk c = false) : adrL c = [] ∧ adrE c = 1 := ⟨by simp [adrL, k], by simp [adrE, k]⟩
theorem verOf_zero {f : UInt8} (h : f.toNat = 0) : verOf f = 0 := if_pos h
theorem verOf_more {f : UInt8} (h : ¬ f.toNat = 0) : verOf f = UInt8.ofNat (f.toNat - 80) := if_neg h
theorem verOf_nat {f : UInt8} (h : verOk f = true) : (f.toNat = 0 ∧ (verOf f).toNat = 0) ∨ (80 < f.toNat ∧ f.toNat ≤ 96 ∧ (verOf f).toNat = f.toNat - 80) := by
  simp only [verOk, Bool.or_eq_true, Bool.and_eq_true, decide_eq_true_eq] at h
  rcases h with h | ⟨h1, h2⟩
  · exact .inl ⟨h, by rw [verOf_zero h]; rfl⟩
  · refine .inr ⟨h1, h2, ?_⟩
    rw [verOf_more (by omega)]
    simp only [UInt8.toNat_ofNat']; omega

/-- The script of a version and a program. -/
def firstOf (v : UInt8) : UInt8 := if v.toNat = 0 then 0 else UInt8.ofNat (v.toNat + 80)
def layL (v : UInt8) (p : List UInt8) : List UInt8 := firstOf v :: UInt8.ofNat p.length :: p
def progOk (p : List UInt8) : Bool := decide (2 ≤ p.length) && decide (p.length ≤ 40)
/-- What is asked of the data of an address. -/
def datOk (d : List UInt8) : Bool := decide ((d.getD 0 0).toNat ≤ 16) && (gatOk (d.drop 1) && progOk (gat (d.drop 1)))
def scrOk (s : List UInt8) : Bool := decOk s && (decide (headOf s = en) && (decide (1 ≤ (dataOf s).length) && datOk (dataOf s)))
def scrL (s : List UInt8) : List UInt8 := if scrOk s = true then layL ((dataOf s).getD 0 0) (gat ((dataOf s).drop 1)) else []
def scrF (s : List UInt8) : Int := if scrOk s = true then 0 else 3
theorem scr_ok {s : List UInt8} (k : scrOk s = true) : scrL s = layL ((dataOf s).getD 0 0) (gat ((dataOf s).drop 1)) ∧ scrF s = 0 := ⟨if_pos k, if_pos k⟩
theorem scr_no {s : List UInt8} (k : scrOk s = false) : scrL s = [] ∧ scrF s = 3 := ⟨by simp [scrL, k], by simp [scrF, k]⟩

theorem scOk_parts {c : List UInt8} (k : scOk c = true) : 4 ≤ c.length ∧ c.length ≤ 42 ∧ (c.getD 1 0).toNat = c.length - 2 ∧ verOk (c.getD 0 0) = true := by
  simp only [scOk, Bool.and_eq_true, decide_eq_true_eq] at k
  exact ⟨k.1, k.2.1, k.2.2.1, k.2.2.2⟩
theorem adr_word {c : List UInt8} (k : scOk c = true) : hdOk en (adrD c) = true := by
  obtain ⟨h1, h2, h3, h4⟩ := scOk_parts k
  have hh : headOk en = true := by decide
  rw [hdOk, hh, Bool.true_and, dataOk, Bool.and_eq_true, decide_eq_true_eq]
  constructor
  · simp only [adrD, List.length_cons, spr_length, List.length_drop]; omega
  · rw [List.all_eq_true]
    intro v hv
    simp only [adrD, List.mem_cons] at hv
    rw [decide_eq_true_eq]
    rcases hv with rfl | hv
    · rcases verOf_nat h4 with ⟨_, h⟩ | ⟨_, _, h⟩ <;> omega
    · have := spr_lt _ v hv; omega
theorem first_ver {f : UInt8} (h : verOk f = true) : firstOf (verOf f) = f := by
  apply UInt8.toNat_inj.1
  rcases verOf_nat h with ⟨h1, h2⟩ | ⟨h1, h2, h3⟩
  · rw [firstOf, if_pos h2, h1]; rfl
  · rw [firstOf, if_neg (by omega)]
    simp only [UInt8.toNat_ofNat']; omega
/-- An address leads to its script. -/
theorem scr_adr {c : List UInt8} (k : scOk c = true) : scrL (wordL en (adrD c)) = c ∧ scrF (wordL en (adrD c)) = 0 := by
  obtain ⟨h1, h2, h3, h4⟩ := scOk_parts k
  obtain ⟨d1, d2, d3⟩ := dec_word (adr_word k)
  have hg : gat ((adrD c).drop 1) = c.drop 2 := by simp only [adrD, List.drop_succ_cons, List.drop_zero]; exact gat_spr _
  have hgo : gatOk ((adrD c).drop 1) = true := by simp only [adrD, List.drop_succ_cons, List.drop_zero]; exact gatOk_spr _
  have hok : scrOk (wordL en (adrD c)) = true := by
    have hp : progOk (c.drop 2) = true := by simp only [progOk, List.length_drop, Bool.and_eq_true, decide_eq_true_eq]; omega
    have hv : ((adrD c).getD 0 0).toNat ≤ 16 := by
      simp only [adrD, List.getD_cons_zero]
      rcases verOf_nat h4 with ⟨_, h⟩ | ⟨_, _, h⟩ <;> omega
    rw [scrOk, d1, d2, d3, datOk, hg, hgo, hp]
    simp only [Bool.true_and, Bool.and_true, Bool.and_eq_true, decide_eq_true_eq]
    exact ⟨trivial, by simp [adrD], hv⟩
  refine ⟨?_, (scr_ok hok).2⟩
  rw [(scr_ok hok).1, d3, hg]
  simp only [layL, adrD, List.getD_cons_zero, first_ver h4]
  have e1 : UInt8.ofNat (c.drop 2).length = c.getD 1 0 := by
    apply UInt8.toNat_inj.1
    rw [h3]; simp only [UInt8.toNat_ofNat', List.length_drop]; omega
  rw [e1]
  match c, h1 with
  | a :: b :: t, _ => rfl
end Go.Proofs.YtemgaoikngebeaaDoor

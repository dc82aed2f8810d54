/-
  Plain mathematics of bits that are gathered otherwise: numbers of e bits each as one great number, and its digits.
-/
import Derived.WalkKit
namespace Go.Proofs.YtemgaoikngebeaaDoor

/-- The number whose digits, of e bits each, these are. -/
def NV (e : Nat) (l : List UInt8) : Nat := l.foldl (fun a v => a * 2 ^ e + v.toNat) 0
theorem NV_concat (e : Nat) (l : List UInt8) (v : UInt8) : NV e (l ++ [v]) = NV e l * 2 ^ e + v.toNat := by simp [NV, List.foldl_append]
theorem NV_take (e : Nat) (l : List UInt8) (k : Nat) (h : k < l.length) : NV e (l.take (k + 1)) = NV e (l.take k) * 2 ^ e + l[k].toNat := by
  rw [List.take_succ_eq_append_getElem h, NV_concat]
/-- A number's last m digits. -/
def dg (e : Nat) : Nat → Nat → List UInt8
  | 0, _ => []
  | m + 1, N => dg e m (N / 2 ^ e) ++ [UInt8.ofNat (N % 2 ^ e)]
theorem dg_length (e : Nat) : ∀ m N, (dg e m N).length = m
  | 0, _ => rfl
  | m + 1, N => by simp [dg, dg_length e m]
theorem pow_le8 {e : Nat} (he : e ≤ 8) : 2 ^ e ≤ 256 := Nat.pow_le_pow_right (n := 2) (by decide) he
theorem two_pos (e : Nat) : 0 < 2 ^ e := Nat.pow_pos (by decide)
theorem dg_lt (e : Nat) (he : e ≤ 8) : ∀ m N, ∀ u ∈ dg e m N, u.toNat < 2 ^ e
  | 0, _, u, hu => by simp [dg] at hu
  | m + 1, N, u, hu => by
    simp only [dg, List.mem_append, List.mem_singleton] at hu
    rcases hu with hu | rfl
    · exact dg_lt e he m _ u hu
    · have := Nat.mod_lt N (two_pos e)
      simp only [UInt8.toNat_ofNat']
      exact Nat.lt_of_le_of_lt (Nat.mod_le _ _) this
/-- Digits are told by their number. -/
theorem dg_NV (e : Nat) : ∀ (m : Nat) (l : List UInt8), l.length = m → (∀ u ∈ l, u.toNat < 2 ^ e) → dg e m (NV e l) = l
  | 0, l, hl, _ => by rw [List.eq_nil_of_length_eq_zero hl]; rfl
  | m + 1, l, hl, h => by
    have hk : m < l.length := by omega
    have e1 : l = l.take m ++ [l[m]] := by
      rw [← List.take_succ_eq_append_getElem hk, List.take_of_length_le (by omega)]
    have hv : l[m].toNat < 2 ^ e := h _ (List.getElem_mem hk)
    have e2 : NV e l = NV e (l.take m) * 2 ^ e + l[m].toNat := by conv => lhs; rw [e1, NV_concat]
    have e3 : NV e l / 2 ^ e = NV e (l.take m) := by
      rw [e2, Nat.mul_comm, Nat.mul_add_div (two_pos e), Nat.div_eq_of_lt hv, Nat.add_zero]
    have e4 : NV e l % 2 ^ e = l[m].toNat := by
      rw [e2, Nat.mul_comm, Nat.mul_add_mod, Nat.mod_eq_of_lt hv]
    have e5 : UInt8.ofNat l[m].toNat = l[m] := by simp
    rw [dg, e3, e4, e5, dg_NV e m (l.take m) (by simp; omega) (fun u hu => h u (List.mem_of_mem_take hu))]
    exact e1.symm
theorem NV_inj {e : Nat} {l m : List UInt8} (hl : l.length = m.length) (h1 : ∀ u ∈ l, u.toNat < 2 ^ e) (h2 : ∀ u ∈ m, u.toNat < 2 ^ e) (h : NV e l = NV e m) : l = m := by
  rw [← dg_NV e m.length l hl h1, h, dg_NV e m.length m rfl h2]
theorem NV_dg (e : Nat) (he : e ≤ 8) : ∀ m N, NV e (dg e m N) = N % 2 ^ (e * m)
  | 0, N => by simp [dg, NV, Nat.mod_one]
  | m + 1, N => by
    have hm := Nat.mod_lt N (two_pos e)
    have h8 := pow_le8 he
    rw [dg, NV_concat, NV_dg e he m, UInt8.toNat_ofNat', Nat.mod_eq_of_lt (a := N % 2 ^ e) (by omega), Nat.mul_succ, Nat.add_comm (e * m) e, Nat.pow_add, Nat.mod_mul]
    rw [Nat.mul_comm]; omega

/-- What has been made of the first k numbers: the new ones, and the bits that are left. -/
def Inv (F T : Nat) (l : List UInt8) (k : Nat) (g : List UInt8) (x c : Nat) : Prop :=
  g.length * T + c = F * k ∧ x < 2 ^ (c + 3) ∧ ((∀ v ∈ l, v.toNat < 2 ^ F) → NV T g * 2 ^ c + x = NV F (l.take k) ∧ x < 2 ^ c ∧ ∀ u ∈ g, u.toNat < 2 ^ T)
theorem Inv.start (F T : Nat) (l : List UInt8) : Inv F T l 0 [] 0 0 := ⟨by simp, by decide, fun _ => ⟨by simp [NV], by decide, fun u hu => by simp at hu⟩⟩
theorem Inv.add {F T : Nat} {l : List UInt8} {k : Nat} {g : List UInt8} {x c : Nat} (h : Inv F T l k g x c) (hF : 5 ≤ F) (hk : k < l.length) : Inv F T l (k + 1) g (x * 2 ^ F ||| l[k].toNat) (c + F) := by
  obtain ⟨h1, h2, h3⟩ := h
  refine ⟨by rw [Nat.mul_succ]; omega, ?_, fun hl => ?_⟩
  · refine Nat.or_lt_two_pow ?_ ?_
    · rw [show c + F + 3 = (c + 3) + F by omega, Nat.pow_add]
      exact Nat.mul_lt_mul_of_pos_right h2 (two_pos F)
    · exact Nat.lt_of_lt_of_le l[k].toNat_lt (Nat.pow_le_pow_right (n := 2) (by decide) (by omega))
  · obtain ⟨h4, h5, h6⟩ := h3 hl
    have hv := hl l[k] (List.getElem_mem hk)
    have e : x * 2 ^ F ||| l[k].toNat = x * 2 ^ F + l[k].toNat := by
      rw [Nat.mul_comm]; exact (Nat.two_pow_add_eq_or_of_lt hv x).symm
    rw [e]
    refine ⟨?_, ?_, h6⟩
    · rw [NV_take F l k hk, ← h4, Nat.pow_add, Nat.add_mul, Nat.mul_assoc]; omega
    · rw [Nat.pow_add]
      have : (x + 1) * 2 ^ F ≤ 2 ^ c * 2 ^ F := Nat.mul_le_mul_right _ h5
      rw [Nat.succ_mul] at this
      omega
theorem Inv.emit {F T : Nat} {l : List UInt8} {k : Nat} {g : List UInt8} {x d : Nat} (h : Inv F T l k g x (d + T)) (hT : T ≤ 8) : Inv F T l k (g ++ [UInt8.ofNat (x / 2 ^ d)]) (x % 2 ^ d) d := by
  obtain ⟨h1, h2, h3⟩ := h
  have hm := Nat.mod_lt x (two_pos d)
  refine ⟨by simp only [List.length_append, List.length_cons, List.length_nil, Nat.add_mul]; omega, ?_, fun hl => ?_⟩
  · rw [Nat.pow_add]; omega
  · obtain ⟨h4, h5, h6⟩ := h3 hl
    have hq : x / 2 ^ d < 2 ^ T := by
      rw [Nat.div_lt_iff_lt_mul (two_pos d), ← Nat.pow_add, Nat.add_comm]; exact h5
    have h8 := pow_le8 hT
    have eu : (UInt8.ofNat (x / 2 ^ d)).toNat = x / 2 ^ d := by rw [UInt8.toNat_ofNat']; exact Nat.mod_eq_of_lt (by omega)
    refine ⟨?_, hm, fun u hu => ?_⟩
    · rw [NV_concat, eu, Nat.add_mul, Nat.mul_assoc, ← Nat.pow_add, ← h4, Nat.add_comm d T]
      have := Nat.div_add_mod x (2 ^ d)
      rw [Nat.mul_comm] at this
      omega
    · simp only [List.mem_append, List.mem_singleton] at hu
      rcases hu with hu | rfl
      · exact h6 u hu
      · rw [eu]; exact hq

/-- Bits, five by five, noughts behind the last ones. -/
def spr (b : List UInt8) : List UInt8 := dg 5 ((b.length * 8 + 4) / 5) (NV 8 b * 2 ^ (5 * ((b.length * 8 + 4) / 5) - 8 * b.length))
theorem spr_lt (b : List UInt8) : ∀ u ∈ spr b, u.toNat < 32 := dg_lt 5 (by decide) _ _
theorem spr_length (b : List UInt8) : (spr b).length = (b.length * 8 + 4) / 5 := dg_length _ _ _
theorem bytes_small (b : List UInt8) : ∀ v ∈ b, v.toNat < 2 ^ 8 := fun v _ => v.toNat_lt
/-- What Spread makes of what regroup tells. -/
theorem spr_of {b g : List UInt8} {x c : Nat} (h : Inv 8 5 b b.length g x c) (hc : c < 5) : (c = 0 → g = spr b) ∧ (0 < c → g ++ [UInt8.ofNat (x * 2 ^ (5 - c))] = spr b) := by
  obtain ⟨h1, _, h3⟩ := h
  obtain ⟨h4, h5, h6⟩ := h3 (bytes_small b)
  rw [List.take_length] at h4
  constructor
  · rintro rfl
    have hl : g.length = (b.length * 8 + 4) / 5 := by omega
    rw [spr, ← hl, show 5 * g.length - 8 * b.length = 0 by omega, Nat.pow_zero, Nat.mul_one, ← h4, show x = 0 by omega, Nat.pow_zero, Nat.mul_one, Nat.add_zero]
    exact (dg_NV 5 g.length g rfl h6).symm
  · intro hc0
    have hl : g.length + 1 = (b.length * 8 + 4) / 5 := by omega
    have hq : x * 2 ^ (5 - c) < 32 := by
      have : x * 2 ^ (5 - c) < 2 ^ c * 2 ^ (5 - c) := Nat.mul_lt_mul_of_pos_right h5 (two_pos _)
      rw [← Nat.pow_add, show c + (5 - c) = 5 by omega] at this
      exact this
    have eu : (UInt8.ofNat (x * 2 ^ (5 - c))).toNat = x * 2 ^ (5 - c) := by rw [UInt8.toNat_ofNat']; exact Nat.mod_eq_of_lt (by omega)
    have hn : NV 5 (g ++ [UInt8.ofNat (x * 2 ^ (5 - c))]) = NV 8 b * 2 ^ (5 - c) := by
      rw [NV_concat, eu, ← h4, Nat.add_mul, Nat.mul_assoc, ← Nat.pow_add, show c + (5 - c) = 5 by omega]
    rw [spr, ← hl, show 5 * (g.length + 1) - 8 * b.length = 5 - c by omega, ← hn]
    refine (dg_NV 5 (g.length + 1) _ (by simp) fun u hu => ?_).symm
    simp only [List.mem_append, List.mem_singleton] at hu
    rcases hu with hu | rfl
    · exact h6 u hu
    · rw [eu]; exact hq

/-- The bytes of bits. -/
def gat (l : List UInt8) : List UInt8 := dg 8 (l.length * 5 / 8) (NV 5 l / 2 ^ (5 * l.length - 8 * (l.length * 5 / 8)))
theorem gat_of {l g : List UInt8} {x c : Nat} (h : Inv 5 8 l l.length g x c) (hc : c < 8) (hl : ∀ v ∈ l, v.toNat < 32) : g = gat l := by
  obtain ⟨h1, _, h3⟩ := h
  obtain ⟨h4, h5, h6⟩ := h3 hl
  rw [List.take_length] at h4
  have hg : g.length = l.length * 5 / 8 := by omega
  have hn : NV 5 l / 2 ^ c = NV 8 g := by
    rw [← h4, Nat.mul_comm, Nat.mul_add_div (two_pos c), Nat.div_eq_of_lt h5, Nat.add_zero]
  rw [gat, ← hg, show 5 * l.length - 8 * g.length = c by omega, hn]
  exact (dg_NV 8 g.length g rfl h6).symm
/-- There and back. -/
theorem gat_spr (b : List UInt8) : gat (spr b) = b := by
  have hs := spr_length b
  have hp : 5 * ((b.length * 8 + 4) / 5) - 8 * b.length < 5 := by omega
  have hn : NV 5 (spr b) = NV 8 b * 2 ^ (5 * ((b.length * 8 + 4) / 5) - 8 * b.length) := by
    rw [spr, NV_dg 5 (by decide)]
    apply Nat.mod_eq_of_lt
    have hb : NV 8 b < 2 ^ (8 * b.length) := by
      have := NV_dg 8 (by decide) b.length (NV 8 b)
      rw [dg_NV 8 b.length b rfl (bytes_small b)] at this
      rw [this]; exact Nat.mod_lt _ (two_pos _)
    have := Nat.mul_lt_mul_of_pos_right hb (two_pos (5 * ((b.length * 8 + 4) / 5) - 8 * b.length))
    rw [← Nat.pow_add, show 8 * b.length + (5 * ((b.length * 8 + 4) / 5) - 8 * b.length) = 5 * ((b.length * 8 + 4) / 5) by omega] at this
    exact this
  have hl : (spr b).length * 5 / 8 = b.length := by rw [hs]; omega
  rw [gat, hl, hs, hn, Nat.mul_div_cancel _ (two_pos _)]
  exact dg_NV 8 b.length b rfl (bytes_small b)

/-- Is it what Spread makes of bytes? -/
def gatOk (l : List UInt8) : Bool := l.all (fun c => decide (c.toNat ≤ 31)) && decide (spr (gat l) = l)
def gatL (l : List UInt8) : List UInt8 := if gatOk l = true then gat l else []
def gatE (l : List UInt8) : Int := if gatOk l = true then 0 else 3
theorem gat_ok {l : List UInt8} (k : gatOk l = true) : gatL l = gat l ∧ gatE l = 0 := ⟨if_pos k, if_pos k⟩
theorem gat_no {l : List UInt8} (k : gatOk l = false) : gatL l = [] ∧ gatE l = 3 := ⟨by simp [gatL, k], by simp [gatE, k]⟩
theorem gatOk_spr (b : List UInt8) : gatOk (spr b) = true := by
  rw [gatOk, gat_spr, Bool.and_eq_true]
  exact ⟨by rw [List.all_eq_true]; intro u hu; have := spr_lt b u hu; simp; omega, by simp⟩
theorem gat_length (l : List UInt8) : (gat l).length = l.length * 5 / 8 := dg_length _ _ _

/-- The i-th bit, the highest first. -/
def bitN (l : List UInt8) (e i : Nat) : Nat := if h : i / e < l.length then l[i / e].toNat / 2 ^ (e - 1 - i % e) % 2 else 0
theorem bitN_lt (l : List UInt8) (e i : Nat) : bitN l e i < 2 := by unfold bitN; split <;> omega
/-- The number of the first i bits. -/
def top (l : List UInt8) (e : Nat) : Nat → Nat
  | 0 => 0
  | i + 1 => 2 * top l e i + bitN l e i
theorem top_div (l : List UInt8) (e a : Nat) : ∀ k, top l e (a + k) / 2 ^ k = top l e a
  | 0 => by simp
  | k + 1 => by
    have hb := bitN_lt l e (a + k)
    rw [← Nat.add_assoc, top, Nat.pow_succ, Nat.mul_comm (2 ^ k) 2, ← Nat.div_div_eq_div_mul, show (2 * top l e (a + k) + bitN l e (a + k)) / 2 = top l e (a + k) by omega]
    exact top_div l e a k
theorem top_mod (l : List UInt8) (e a k : Nat) : top l e (a + (k + 1)) % 2 ^ (k + 1) = 2 * (top l e (a + k) % 2 ^ k) + bitN l e (a + k) := by
  have hb := bitN_lt l e (a + k)
  rw [← Nat.add_assoc, top, Nat.pow_succ, Nat.mul_comm (2 ^ k) 2, Nat.mod_mul, show (2 * top l e (a + k) + bitN l e (a + k)) / 2 = top l e (a + k) by omega]
  omega
theorem top_digit (l : List UInt8) (e k : Nat) (he : 0 < e) (hk : k < l.length) (hv : l[k].toNat < 2 ^ e) : ∀ j, j ≤ e → top l e (e * k + j) = top l e (e * k) * 2 ^ j + l[k].toNat / 2 ^ (e - j)
  | 0, _ => by simp [Nat.div_eq_of_lt hv]
  | j + 1, hj => by
    have ih := top_digit l e k he hk hv j (by omega)
    have hq : (e * k + j) / e = k := by rw [Nat.mul_add_div he, Nat.div_eq_of_lt (by omega), Nat.add_zero]
    have hr : (e * k + j) % e = j := by rw [Nat.mul_add_mod, Nat.mod_eq_of_lt (by omega)]
    have hb : bitN l e (e * k + j) = l[k].toNat / 2 ^ (e - 1 - j) % 2 := by
      unfold bitN
      rw [dif_pos (by rw [hq]; exact hk)]
      simp only [hq, hr]
    rw [← Nat.add_assoc, top, ih, hb, show e - (j + 1) = e - 1 - j by omega, show e - j = (e - 1 - j) + 1 by omega, Nat.pow_succ, Nat.pow_succ, ← Nat.div_div_eq_div_mul, Nat.mul_add]
    have e1 : 2 * (top l e (e * k) * 2 ^ j) = top l e (e * k) * (2 ^ j * 2) := by rw [← Nat.mul_assoc, ← Nat.mul_assoc, Nat.mul_comm 2, Nat.mul_assoc, Nat.mul_comm 2, ← Nat.mul_assoc]
    rw [e1]
    omega
theorem top_NV (l : List UInt8) (e : Nat) (he : 0 < e) (hv : ∀ v ∈ l, v.toNat < 2 ^ e) : ∀ k, k ≤ l.length → top l e (e * k) = NV e (l.take k)
  | 0, _ => by simp [top, NV]
  | k + 1, hk => by
    have := top_digit l e k he (by omega) (hv _ (List.getElem_mem (by omega))) e (Nat.le_refl _)
    rw [Nat.mul_succ, this, top_NV l e he hv k (by omega), NV_take e l k (by omega), Nat.sub_self, Nat.pow_zero, Nat.div_one]
theorem top_more (l : List UInt8) (e : Nat) (he : 0 < e) : ∀ j, top l e (e * l.length + j) = top l e (e * l.length) * 2 ^ j
  | 0 => by simp
  | j + 1 => by
    have hb : bitN l e (e * l.length + j) = 0 := by
      unfold bitN
      rw [dif_neg]
      rw [Nat.mul_add_div he]; exact Nat.not_lt.2 (Nat.le_add_right _ _)
    rw [← Nat.add_assoc, top, top_more l e he j, hb, Nat.pow_succ, Nat.add_zero, Nat.mul_comm, Nat.mul_assoc]
/-- What the document packs. -/
def pk (l : List UInt8) (e t many : Nat) : List UInt8 := dg t many (top l e (many * t))
theorem pk_step (l : List UInt8) (e t i : Nat) : pk l e t (i + 1) = pk l e t i ++ [UInt8.ofNat (top l e (i * t + t) % 2 ^ t)] := by
  rw [pk, dg, Nat.succ_mul, top_div]; rfl
theorem pk_spr (b : List UInt8) : pk b 8 5 ((b.length * 8 + 4) / 5) = spr b := by
  rw [pk, spr, show (b.length * 8 + 4) / 5 * 5 = 8 * b.length + (5 * ((b.length * 8 + 4) / 5) - 8 * b.length) by omega, top_more b 8 (by decide), top_NV b 8 (by decide) (bytes_small b) _ (Nat.le_refl _), List.take_length]
theorem pk_gat (l : List UInt8) (hl : ∀ v ∈ l, v.toNat < 32) : pk l 5 8 (l.length * 5 / 8) = gat l := by
  have h := top_div l 5 (l.length * 5 / 8 * 8) (5 * l.length - 8 * (l.length * 5 / 8))
  rw [show l.length * 5 / 8 * 8 + (5 * l.length - 8 * (l.length * 5 / 8)) = 5 * l.length by omega, top_NV l 5 (by decide) hl _ (Nat.le_refl _), List.take_length] at h
  rw [pk, gat, h]
end Go.Proofs.YtemgaoikngebeaaDoor

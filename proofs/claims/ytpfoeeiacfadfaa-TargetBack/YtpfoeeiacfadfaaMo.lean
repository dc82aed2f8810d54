/-
  What a call has made, as one list of things: arrays in blocks, and slices of its own that grow; what a slice's cells are; what single operations do to them.
-/
import Derived.Test.YtpfoeeiacfadfaaFr
import Derived.Test.YtpfoeeiacfadfaaE32
namespace Go.Proofs.Ytpfoeeiacfadfaa
open Go.RowKit

/-- A thing that a call has made. -/
inductive Res where
  | arr (g : Nat) (T : TypeId) (cs : List Value)
  | own (E : TypeId) (z : Nat) (v : Value) (n : Nat) (cs : List Value)
  | rdo (v : Value) (n : Nat) (cs : List Value)
  | rda (v : Value) (n : Nat) (cs : List Value)
/-- THE SLICE v HAS n ELEMENTS, IN THESE CELLS, in blocks below B. -/
def Rc (B : Nat) (w : World) (v : Value) (n : Nat) (cs : List Value) : Prop :=
  ∃ ao cap, v = .slice ao n cap ∧ n ≤ cap ∧ (ao = none → cap = 0) ∧ ∀ a, ao = some a → ∀ j u, cs[j]? = some u → w.cell? (a.add j) = some u ∧ a.block < B
namespace Res
def blk : Res → Option Nat
  | .arr g _ _ => some g
  | .own _ _ v _ _ => v.ownBlock
  | .rdo v _ _ => v.ownBlock
  | .rda v _ _ => v.ownBlock
/-- Made by the call, for certain. -/
def mine : Res → Bool
  | .rda _ _ _ => false
  | _ => true
def ok (B : Nat) (w : World) : Res → Prop
  | .arr g T cs => B ≤ g ∧ Arr T w g cs
  | .own E z v n cs => w.ownsRow B E z v n cs
  | .rdo v n cs => (∀ g, v.ownBlock = some g → B ≤ g ∧ g < w.heap.size) ∧ Rc w.heap.size w v n cs
  | .rda v n cs => (∀ g, v.ownBlock = some g → g < w.heap.size) ∧ Rc w.heap.size w v n cs
def ap (a b : Res) : Prop := ∀ g, a.blk = some g → b.blk ≠ some g
theorem ap_symm {a b : Res} (h : a.ap b) : b.ap a := fun g h1 h2 => h g h2 h1
theorem ok.blk {r : Res} {B : Nat} {w : World} (h : r.ok B w) (hm : r.mine = true) : ∀ g, r.blk = some g → B ≤ g ∧ g < w.heap.size := by
  intro g hg
  cases r with
  | arr g' T cs => obtain rfl := Option.some.inj hg; exact ⟨h.1, h.2.lt⟩
  | own E z v n cs => exact World.ownsRow.lt h g hg
  | rdo v n cs => exact h.1 g hg
  | rda v n cs => cases hm
theorem ok.lt {r : Res} {B : Nat} {w : World} (h : r.ok B w) : ∀ g, r.blk = some g → g < w.heap.size := by
  intro g hg
  cases hm : r.mine with
  | true => exact (h.blk hm g hg).2
  | false =>
    cases r with
    | rda v n cs => exact h.1 g hg
    | arr _ _ _ => cases hm
    | own _ _ _ _ _ => cases hm
    | rdo _ _ _ => cases hm
theorem ok.mono {r : Res} {B B' : Nat} {w : World} (h : r.ok B w) (hB : B' ≤ B) : r.ok B' w := by
  cases r with
  | arr g T cs => exact ⟨Nat.le_trans hB h.1, h.2⟩
  | own E z v n cs =>
    refine ⟨h.1, ?_⟩
    rcases h.2 with hn | ⟨g, cap, cur, rfl, hb, rest⟩
    · exact .inl hn
    · exact .inr ⟨g, cap, cur, rfl, Nat.le_trans hB hb, rest⟩
  | rdo v n cs => exact ⟨fun g hg => ⟨Nat.le_trans hB (h.1 g hg).1, (h.1 g hg).2⟩, h.2⟩
  | rda v n cs => exact h
/-- What does not touch its block leaves it as it is. -/
theorem ok.grown {r : Res} {B : Nat} {w w' : World} {row : Option Nat} (h : r.ok B w) (hg : w.grownBy w' row) (hn : ∀ g, r.blk = some g → row ≠ some g) : r.ok B w' := by
  cases r with
  | arr g T cs =>
    refine ⟨h.1, ?_⟩
    unfold Arr
    rw [hg.block g h.2.lt (fun e => hn g rfl e.symm)]
    exact h.2
  | own E z v n cs =>
    refine World.ownsRow.kept h hg ?_
    cases hv : v.ownBlock with
    | none => exact .inl rfl
    | some g => exact .inr (fun e => hn g hv (by rw [← e]))
  | rdo v n cs =>
    obtain ⟨hb, ao, cap, rfl, h1, h2, h3⟩ := h
    refine ⟨fun g e => ⟨(hb g e).1, Nat.lt_of_lt_of_le (hb g e).2 hg.size⟩, ao, cap, rfl, h1, h2, fun a ha j u hu => ?_⟩
    subst ha
    have hk := hn a.block rfl
    have hlt := (hb a.block rfl).2
    refine ⟨?_, Nat.lt_of_lt_of_le hlt hg.size⟩
    rw [← (h3 a rfl j u hu).1]
    refine World.cell?_of_block ?_
    rw [add_block]
    exact hg.block _ hlt (fun e => hk e.symm)
  | rda v n cs =>
    obtain ⟨hb, ao, cap, rfl, h1, h2, h3⟩ := h
    refine ⟨fun g e => Nat.lt_of_lt_of_le (hb g e) hg.size, ao, cap, rfl, h1, h2, fun a ha j u hu => ?_⟩
    subst ha
    have hk := hn a.block rfl
    have hlt := hb a.block rfl
    refine ⟨?_, Nat.lt_of_lt_of_le hlt hg.size⟩
    rw [← (h3 a rfl j u hu).1]
    refine World.cell?_of_block ?_
    rw [add_block]
    exact hg.block _ hlt (fun e => hk e.symm)
end Res
theorem Below.by_none {w w' : World} (h : Gr w w') : w.grownBy w' none := ⟨Below.os h, Below.tape h, Below.output h, Below.size h, fun k hk _ => Below.block h k hk⟩

/-- WHAT A CALL HAS MADE: these things, each in a block of its own; nothing that was there ahead of the call has turned. -/
structure Mo (w0 w : World) (L : List Res) : Prop where
  below : Below w0.heap.size w0 w
  ok : ∀ r ∈ L, r.ok w0.heap.size w
  ap : L.Pairwise Res.ap
section
variable {w0 w w' : World} {L : List Res} {r r' : Res}
theorem Mo.start (w : World) : Mo w w [] := ⟨Below.refl _ _, fun _ h => absurd h List.not_mem_nil, List.Pairwise.nil⟩
theorem Mo.size (m : Mo w0 w L) : w0.heap.size ≤ w.heap.size := m.below.size
theorem Mo.gr (m : Mo w0 w L) (h : Gr w w') : Mo w0 w' L := ⟨m.below.trans (Below.mono h m.below.size), fun r hr => (m.ok r hr).grown (Below.by_none h) (fun _ _ e => by cases e), m.ap⟩
theorem Mo.drew (m : Mo w0 w L) : Mo w0 (w.drewN 1) L := m.gr (Below.drewN' _ _ 1)
/-- A new thing, and nothing else turned. -/
theorem Mo.new (m : Mo w0 w L) (h : Gr w w') (hr : r.ok w.heap.size w') (hm : r.mine = true := by rfl) : Mo w0 w' (r :: L) := by
  have m' := m.gr h
  refine ⟨m'.below, fun x hx => ?_, List.pairwise_cons.2 ⟨fun x hx g h1 h2 => ?_, m.ap⟩⟩
  · rcases List.mem_cons.1 hx with rfl | hx
    · exact hr.mono m.size
    · exact m'.ok x hx
  · have h3 := (hr.blk hm g h1).1
    have h4 := (m.ok x hx).lt g h2
    omega
theorem Mo.get (m : Mo w0 w L) {i : Nat} (h : L[i]? = some r) : r.ok w0.heap.size w := m.ok r (List.mem_of_getElem? h)
theorem Mo.sub {L' : List Res} (m : Mo w0 w L) (h : L'.Sublist L) : Mo w0 w L' := ⟨m.below, fun r hr => m.ok r (h.subset hr), m.ap.sublist h⟩
theorem pairwise_set {α : Type} {R : α → α → Prop} (hs : ∀ {a b}, R a b → R b a) : ∀ {L : List α} {i : Nat} {x y : α}, L.Pairwise R → L[i]? = some x → (∀ z ∈ L, R x z → R y z) → (L.set i y).Pairwise R
  | [], _, _, _, _, h, _ => by simp at h
  | a :: L, 0, x, y, hp, h, hxy => by
    obtain rfl : a = x := by simpa using h
    rw [List.set_cons_zero, List.pairwise_cons] at *
    exact ⟨fun z hz => hxy z (List.mem_cons_of_mem _ hz) (hp.1 z hz), hp.2⟩
  | a :: L, i + 1, x, y, hp, h, hxy => by
    have h' : L[i]? = some x := by simpa using h
    rw [List.set_cons_succ, List.pairwise_cons] at *
    refine ⟨fun z hz => ?_, pairwise_set hs hp.2 h' (fun z hz => hxy z (List.mem_cons_of_mem _ hz))⟩
    rcases List.mem_or_eq_of_mem_set hz with hz | rfl
    · exact hp.1 z hz
    · exact hs (hxy a List.mem_cons_self (hs (hp.1 x (List.mem_of_getElem? h'))))
/-- One thing turns, or moves into a new block. -/
theorem Mo.turn (m : Mo w0 w L) {i : Nat} (h : L[i]? = some r) (hg : w.grownBy w' r.blk) (hr : r'.ok w0.heap.size w') (hb : ∀ g, r'.blk = some g → r.blk = some g ∨ w.heap.size ≤ g) (hm : r.mine = true := by rfl) : Mo w0 w' (L.set i r') := by
  have hin := List.mem_of_getElem? h
  refine ⟨m.below.grown hg m.size (fun k hk => ((m.ok r hin).blk hm k hk).1), fun x hx => ?_, pairwise_set (fun h => Res.ap_symm h) m.ap h (fun z hz hxz g h1 h2 => ?_)⟩
  · rcases List.getElem?_of_mem hx with ⟨j, hj⟩
    rw [List.getElem?_set] at hj
    split at hj
    · split at hj
      · obtain rfl := Option.some.inj hj; exact hr
      · cases hj
    · rename_i hne
      have hp : ∀ (a b : Nat) (x y : Res), a < b → L[a]? = some x → L[b]? = some y → x.ap y := fun a b x y hab ha hb => by
        obtain ⟨ha', ea⟩ := List.getElem?_eq_some_iff.1 ha
        obtain ⟨hb', eb⟩ := List.getElem?_eq_some_iff.1 hb
        rw [← ea, ← eb]
        exact List.pairwise_iff_getElem.1 m.ap a b ha' hb' hab
      have hap : r.ap x := by
        rcases Nat.lt_or_ge i j with hl | hl
        · exact hp i j r x hl h hj
        · exact Res.ap_symm (hp j i x r (by omega) hj h)
      exact (m.ok x (List.mem_of_getElem? hj)).grown hg (fun g h1 h2 => hap g h2 h1)
  · rcases hb g h1 with h3 | h3
    · exact hxz g h3 h2
    · have := (m.ok z hz).lt g h2; omega
end

theorem Rd.rc {B : Nat} {w : World} {v : Value} {l : List UInt8} (h : Rd B w v l) : Rc B w v l.length (cellsOf l) := h
theorem Rc.rd {B : Nat} {w : World} {v : Value} {n : Nat} {l : List UInt8} (h : Rc B w v n (cellsOf l)) (hn : n = l.length) : Rd B w v l := by subst hn; exact h
theorem Rc.self {B : Nat} {w : World} {v : Value} {n : Nat} {cs : List Value} (h : Rc B w v n cs) : Rc w.heap.size w v n cs := by
  obtain ⟨ao, cap, rfl, h1, h2, h3⟩ := h
  refine ⟨ao, cap, rfl, h1, h2, fun a ha j u hu => ⟨(h3 a ha j u hu).1, ?_⟩⟩
  have := World.block_lt_of_cell? w (a.add j) (h3 a ha j u hu).1
  rwa [add_block] at this
theorem Rc.below {B : Nat} {w w' : World} {v : Value} {n : Nat} {cs : List Value} (h : Rc B w v n cs) (hb : Below B w w') : Rc B w' v n cs := by
  obtain ⟨ao, cap, rfl, h1, h2, h3⟩ := h
  refine ⟨ao, cap, rfl, h1, h2, fun a ha j u hu => ⟨?_, (h3 a ha j u hu).2⟩⟩
  rw [hb.cell (by rw [add_block]; exact (h3 a ha j u hu).2)]
  exact (h3 a ha j u hu).1
theorem Rc.mono {B B' : Nat} {w : World} {v : Value} {n : Nat} {cs : List Value} (h : Rc B w v n cs) (hB : B ≤ B') : Rc B' w v n cs := by
  obtain ⟨ao, cap, rfl, h1, h2, h3⟩ := h
  exact ⟨ao, cap, rfl, h1, h2, fun a ha j u hu => ⟨(h3 a ha j u hu).1, Nat.lt_of_lt_of_le (h3 a ha j u hu).2 hB⟩⟩
/-- Of the world ahead of the call, in any world behind. -/
theorem Rc.at {w0 w : World} {L : List Res} {v : Value} {n : Nat} {cs : List Value} (h : Rc w0.heap.size w0 v n cs) (m : Mo w0 w L) : Rc w.heap.size w v n cs := (h.below m.below).self
theorem Rc.gr {w w' : World} {v : Value} {n : Nat} {cs : List Value} {B : Nat} (h : Rc B w v n cs) (hg : Gr w w') : Rc w'.heap.size w' v n cs := (h.self.below hg).self
theorem Rc.nil (B : Nat) (w : World) : Rc B w (.slice none 0 0) 0 [] := ⟨none, 0, rfl, Nat.le_refl _, fun _ => rfl, fun a h => by cases h⟩
theorem own_rc {E : TypeId} {z B : Nat} {w : World} {v : Value} {n : Nat} {cs : List Value} (h : w.ownsRow B E z v n cs) : Rc w.heap.size w v n cs := by
  have hh := h
  obtain ⟨h1, h2⟩ := h
  rcases h2 with ⟨rfl, hn⟩ | ⟨g, cap, cur, rfl, hb, hg, hnc, hcm, hcs, htake⟩
  · subst hn
    obtain rfl := List.eq_nil_of_length_eq_zero (by simpa using h1)
    exact Rc.nil _ _
  · refine ⟨some ⟨g, 0, none⟩, cap, rfl, hnc, (fun h => by cases h), fun a ha j u hu => ?_⟩
    obtain rfl := Option.some.inj ha
    exact ⟨World.ownsRow.cells hh (g := g) rfl j u hu, (Array.getElem?_eq_some_iff.1 hg).1⟩
theorem Mo.rc {w0 w : World} {L : List Res} {E : TypeId} {z : Nat} {v : Value} {n : Nat} {cs : List Value} (m : Mo w0 w L) (i : Nat) (h : L[i]? = some (.own E z v n cs)) : Rc w.heap.size w v n cs := own_rc (m.get h)
theorem Rc.blk {B : Nat} {w : World} {v : Value} {n : Nat} {cs : List Value} (h : Rc B w v n cs) (hc : 0 < cs.length) : ∀ g, v.ownBlock = some g → g < B := by
  obtain ⟨ao, cap, rfl, h1, h2, h3⟩ := h
  intro g hg
  cases ao with
  | none => cases hg
  | some a =>
    obtain rfl := Option.some.inj hg
    exact (h3 a rfl 0 _ (List.getElem?_eq_getElem hc)).2
/-- What came in, among what was made. -/
theorem Mo.old {w0 w : World} {L : List Res} {v : Value} {n : Nat} {cs : List Value} (m : Mo w0 w L) (h : Rc w0.heap.size w0 v n cs) (hc : 0 < cs.length) (hm : L.all Res.mine = true := by rfl) : Mo w0 w (.rda v n cs :: L) := by
  have hb := h.blk hc
  refine ⟨m.below, fun x hx => ?_, List.pairwise_cons.2 ⟨fun x hx g h1 h2 => ?_, m.ap⟩⟩
  · rcases List.mem_cons.1 hx with rfl | hx
    · exact ⟨fun g hg => Nat.lt_of_lt_of_le (hb g hg) m.size, (h.below m.below).self⟩
    · exact m.ok x hx
  · have h3 := hb g h1
    have h4 := ((m.ok x hx).blk (List.all_eq_true.1 hm x hx) g h2).1
    omega
theorem arr_rc {T : TypeId} {w : World} {g : Nat} {cs : List Value} (h : Arr T w g cs) (n : Nat) : Rc w.heap.size w (.slice (some ⟨g, 0, none⟩) n n) n cs := by
  refine ⟨_, _, rfl, Nat.le_refl _, (fun h => by cases h), fun a ha j u hu => ?_⟩
  obtain rfl := Option.some.inj ha
  rw [Addr.add_lit, Nat.zero_add]
  exact ⟨by rw [cell_of_row w g j _ T (0, 0) h]; simpa using hu, h.lt⟩
theorem Mo.arr {w0 w : World} {L : List Res} {T : TypeId} {g : Nat} {cs : List Value} (m : Mo w0 w L) (i : Nat) (h : L[i]? = some (.arr g T cs)) : Arr T w g cs := (m.get h).2
theorem Mo.arc {w0 w : World} {L : List Res} {T : TypeId} {g : Nat} {cs : List Value} (m : Mo w0 w L) (i : Nat) (h : L[i]? = some (.arr g T cs)) (n : Nat) : Rc w.heap.size w (.slice (some ⟨g, 0, none⟩) n n) n cs := arr_rc (m.arr i h) n
theorem Mo.cell {w0 w : World} {L : List Res} {T : TypeId} {g j : Nat} {cs : List Value} {v : Value} (m : Mo w0 w L) (i : Nat) (h : L[i]? = some (.arr g T cs)) (hv : cs[j]? = some v) : w.cell? ⟨g, j, none⟩ = some v := by
  rw [cell_of_row w g j _ T (0, 0) (m.arr i h)]; simpa using hv

/-- Where the k-th cell of a slice lies. -/
def eP : Value → Nat → Value
  | .slice (some a) _ _, k => .pointer (some (a.add k))
  | _, _ => .pointer none
/-- v[lo:hi], of elements of z cells. -/
def sV (z : Nat) : Value → Nat → Nat → Value
  | .slice a _ cap, lo, hi => .slice (if cap = lo then a else a.map (·.add (lo * z))) (hi - lo) (cap - lo)
  | _, _, _ => undef
theorem Rc.sl {B : Nat} {w : World} {v : Value} {n : Nat} {cs : List Value} (z : Nat) (h : Rc B w v n cs) (lo hi : Nat) (h1 : lo ≤ hi) (h2 : hi ≤ n) : Rc B w (sV z v lo hi) (hi - lo) ((cs.take (hi * z)).drop (lo * z)) := by
  obtain ⟨ao, cap, rfl, h3, h4, h5⟩ := h
  refine ⟨(if cap = lo then ao else ao.map (·.add (lo * z))), cap - lo, rfl, by omega, fun hn => ?_, fun a ha j u hu => ?_⟩
  · split at hn
    · omega
    · cases ao with
      | none => have := h4 rfl; omega
      | some a => simp at hn
  · rw [List.getElem?_drop, List.getElem?_take] at hu
    split at hu
    · rename_i hlt
      split at ha
      · rename_i hc
        subst ha
        have : lo = hi := by omega
        subst this
        omega
      · cases ao with
        | none => simp at ha
        | some a0 =>
          simp at ha
          subst ha
          have := h5 a0 rfl _ u hu
          have hs := World.cell?_spot this.1
          have e1 : (a0.add (lo * z)).add j = a0.add (lo * z + j) := by
            obtain ⟨b, off, sp⟩ := a0
            unfold Addr.add
            by_cases e0 : lo * z = 0
            · rw [e0]; simp
            · by_cases ej : j = 0
              · subst ej; simp
              · simp [e0, ej, Nat.add_assoc]
          rw [e1, add_block]
          exact this
    · cases hu
/-- Where there is a cell. -/
theorem Rc.eP {B : Nat} {w : World} {v : Value} {n k : Nat} {cs : List Value} {u : Value} (h : Rc B w v n cs) (hn : 0 < n) (hu : cs[k]? = some u) : ∃ a0 cap, v = .slice (some a0) n cap ∧ eP v k = .pointer (some (a0.add k)) ∧ w.cell? (a0.add k) = some u := by
  obtain ⟨ao, cap, rfl, h1, h2, h3⟩ := h
  cases ao with
  | none => have := h2 rfl; omega
  | some a => exact ⟨a, cap, rfl, rfl, (h3 a rfl k u hu).1⟩
end Go.Proofs.Ytpfoeeiacfadfaa

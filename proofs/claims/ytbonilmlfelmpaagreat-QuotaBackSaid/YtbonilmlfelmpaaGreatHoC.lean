/-
  The document's own ledger (regattaref12): Settle: contract.
  The document's own ledger (regattaref12): Free: contract.
  The document's own ledger (regattaref12): Fits: contract.
-/
import Derived.Test.YtbonilmlfelmpaaGreatHoB
import Derived.BigRegion
import Derived.BigQuiet
namespace Go.Proofs.YtbonilmlfelmpaaGreat
open Go.RowKit

/-- a holder written whole -/
def put6 (W : World) (g o : Nat) (y : Hd) : World := (((((W.setCell ⟨g, o, none⟩ (.int .i64 y.id)).setCell ⟨g, o + 1, none⟩ (.int .i64 y.E)).setCell ⟨g, o + 2, none⟩ (.int .i64 y.P)).setCell ⟨g, o + 3, none⟩ (.int .i64 y.NE)).setCell ⟨g, o + 4, none⟩ (.int .i64 y.NP)).setCell ⟨g, o + 5, none⟩ (.bool y.asked)
theorem Keeps.put6 {F : Nat → Prop} {a w : World} (h : Keeps F a w) {g : Nat} (hg : F g ∨ a.heap.size ≤ g) (o : Nat) (y : Hd) : Keeps F a (put6 w g o y) :=
  (((((h.set hg _ _).set hg _ _).set hg _ _).set hg _ _).set hg _ _).set hg _ _
theorem HdAt.put6 {W : World} {g o : Nat} {s : Hd} (h : HdAt W g o s) (y : Hd) : HdAt (put6 W g o y) g o y := by
  have n : ∀ a b : Nat, a ≠ b → (⟨g, o + a, none⟩ : Addr) ≠ ⟨g, o + b, none⟩ := fun a b h => addr_ne (by omega)
  have n0 : ∀ b : Nat, 0 ≠ b → (⟨g, o + b, none⟩ : Addr) ≠ ⟨g, o, none⟩ := fun b h => addr_ne (by omega)
  have m0 : ∀ b : Nat, 0 ≠ b → (⟨g, o, none⟩ : Addr) ≠ ⟨g, o + b, none⟩ := fun b h => addr_ne (by omega)
  unfold Go.Proofs.YtbonilmlfelmpaaGreat.put6
  refine ⟨?_, ?_, ?_, ?_, ?_, ?_⟩
  · rw [cOther (n0 5 (by omega)), cOther (n0 4 (by omega)), cOther (n0 3 (by omega)), cOther (n0 2 (by omega)), cOther (n0 1 (by omega))]; exact cSame h.c0
  · rw [cOther (n 5 1 (by omega)), cOther (n 4 1 (by omega)), cOther (n 3 1 (by omega)), cOther (n 2 1 (by omega))]; exact cSame ((cOther (m0 1 (by omega))).trans h.c1)
  · rw [cOther (n 5 2 (by omega)), cOther (n 4 2 (by omega)), cOther (n 3 2 (by omega))]; exact cSame ((cOther (n 1 2 (by omega))).trans ((cOther (m0 2 (by omega))).trans h.c2))
  · rw [cOther (n 5 3 (by omega)), cOther (n 4 3 (by omega))]; exact cSame ((cOther (n 2 3 (by omega))).trans ((cOther (n 1 3 (by omega))).trans ((cOther (m0 3 (by omega))).trans h.c3)))
  · rw [cOther (n 5 4 (by omega))]; exact cSame ((cOther (n 3 4 (by omega))).trans ((cOther (n 2 4 (by omega))).trans ((cOther (n 1 4 (by omega))).trans ((cOther (m0 4 (by omega))).trans h.c4))))
  · exact cSame ((cOther (n 4 5 (by omega))).trans ((cOther (n 3 5 (by omega))).trans ((cOther (n 2 5 (by omega))).trans ((cOther (n 1 5 (by omega))).trans ((cOther (m0 5 (by omega))).trans h.c5)))))
theorem at_of {hs : List Hd} {id k : Int} {j : Nat} {x : Hd} (hk : AtV hs id k) (hj : hs[j]? = some x) (hx : x.id = id) (uq : ∀ i y, hs[i]? = some y → y.id = id → i = j) : k = (j : Int) := by
  rcases at_neg hk with ⟨_, _, hn⟩ | ⟨_, i, y, e, hi, hy⟩
  · exact absurd hx (hn x (List.mem_of_getElem? hj))
  · rw [e, uq i y hi hy]
end Go.Proofs.YtbonilmlfelmpaaGreat
namespace Go.Proofs.YtbonilmlfelmpaaGreat
open Go.RowKit

theorem RowH.take {W : World} {a : Option Addr} {len cap m : Nat} {hs : List Hd} (h : RowH W a len cap hs) (hm : m ≤ len) : RowH W a m cap (hs.take m) := by
  unfold RowH
  rw [List.map_take]
  exact RowF.take h hm
theorem RowH.rest {W : World} {b off len cap m : Nat} {hs : List Hd} (h : RowH W (some ⟨b, off, none⟩) len cap hs) (hm : m ≤ len) : RowH W (some ⟨b, off + m * 6, none⟩) (len - m) (cap - m) (hs.drop m) := by
  have hc := RowF.cap_le h
  have hn := h.len
  refine ⟨by rw [List.length_map, List.length_drop, hn], by omega, by omega, (fun e => by cases e), fun i hi => ?_⟩
  obtain ⟨b', off', ha, hcell⟩ := h.2.2.2.2 (m + i) (by omega)
  simp only [Option.some.injEq, Addr.mk.injEq, and_true] at ha
  obtain ⟨rfl, rfl⟩ := ha
  refine ⟨_, _, rfl, fun j hj => ?_⟩
  have := hcell j hj
  rw [List.map_drop, List.getD_eq_getElem?_getD, List.getElem?_drop, ← List.getD_eq_getElem?_getD]
  rw [← this, Nat.add_mul, Nat.add_assoc off (m * 6)]
theorem RowH.none {W : World} {a : Addr} : RowH W (some a) 0 0 [] := ⟨rfl, by omega, by omega, (fun e => by cases e), (fun i hi => by omega)⟩
theorem erase_split {α : Type} (l : List α) (j : Nat) : l.eraseIdx j = l.take j ++ l.drop (j + 1) := List.eraseIdx_eq_take_drop_succ ..
end Go.Proofs.YtbonilmlfelmpaaGreat
namespace Go.Proofs.YtbonilmlfelmpaaGreat
open Go.RowKit

section
variable {P : Program} {ops : Array Oper} {Q : Exit → Act → World → Prop} {md : Region.Mode} {S : World → Prop}
/-- take number i first: it is wanted -/
theorem takeY {i : Nat} {oi : Oper} {v : Value} {fuel : Nat} {listed : Array Bool} {a : Act} {w : World} (hi : ops[i]? = some oi)
    (hs : Region.noSelect ops = true) (hf : Region.free md ops listed i = true) (hr : (Region.ready md ops listed).contains i = true)
    (hQ : ∀ c a w, Q (.panic c) (a.put oi.dst v) w → Q (.panic c) a w) (hw : Region.wanted oi (yielded ops a.tmps) = true) (hy : ∀ w, S w → (execOp a.eval oi).run P w = .ok (.value v) w) (hS : S w)
    (h : wpAnyH P md ops Q S fuel (listed.setIfInBounds i true) (a.put oi.dst v) w) : wpAnyH P md ops Q S (fuel + 1) listed a w :=
  wpAnyH_take hi hs hf hr hQ (.inl ⟨hw, hy⟩) hS h
/-- .. it is not wanted -/
theorem takeN {i : Nat} {oi : Oper} {fuel : Nat} {listed : Array Bool} {a : Act} {w : World} (hi : ops[i]? = some oi)
    (hs : Region.noSelect ops = true) (hf : Region.free md ops listed i = true) (hr : (Region.ready md ops listed).contains i = true)
    (hQ : ∀ c a w, Q (.panic c) (a.put oi.dst undef) w → Q (.panic c) a w) (hw : Region.wanted oi (yielded ops a.tmps) = false) (hS : S w)
    (h : wpAnyH P md ops Q S fuel (listed.setIfInBounds i true) (a.put oi.dst undef) w) : wpAnyH P md ops Q S (fuel + 1) listed a w :=
  wpAnyH_take hi hs hf hr hQ (.inr ⟨hw, rfl⟩) hS h
end
/-- with one more, and one less -/
def fitsV (N D : Int) (hs : List Hd) (E P E2 P2 : Int) : Bool :=
  if ¬ (1 ≤ E ∧ E ≤ P ∧ P ≤ 1048576) then false
  else if ¬ (1 ≤ E2 ∧ E2 ≤ P2 ∧ P2 ≤ 1048576) then decide (((sumH hs).1 * P + E * (sumH hs).2) * D ≤ N * ((sumH hs).2 * P))
  else decide (E2 * ((sumH hs).2 * P) ≤ ((sumH hs).1 * P + E * (sumH hs).2) * P2) && decide (((sumH hs).1 * P + E * (sumH hs).2) * (D * P2) ≤ (N * P2 + E2 * D) * ((sumH hs).2 * P))
theorem fitsV_no {N D : Int} {hs : List Hd} {E P E2 P2 : Int} (h : ¬ MayBe E P) : fitsV N D hs E P E2 P2 = false := if_pos h
theorem fitsV_one {N D : Int} {hs : List Hd} {E P E2 P2 : Int} (h : MayBe E P) (k : ¬ MayBe E2 P2) : fitsV N D hs E P E2 P2 = decide (((sumH hs).1 * P + E * (sumH hs).2) * D ≤ N * ((sumH hs).2 * P)) := (if_neg (fun q => q h)).trans (if_pos k)
theorem fitsV_two {N D : Int} {hs : List Hd} {E P E2 P2 : Int} (h : MayBe E P) (k : MayBe E2 P2) : fitsV N D hs E P E2 P2 = (decide (E2 * ((sumH hs).2 * P) ≤ ((sumH hs).1 * P + E * (sumH hs).2) * P2) && decide (((sumH hs).1 * P + E * (sumH hs).2) * (D * P2) ≤ (N * P2 + E2 * D) * ((sumH hs).2 * P))) := (if_neg (fun q => q h)).trans (if_neg (fun q => q k))
end Go.Proofs.YtbonilmlfelmpaaGreat

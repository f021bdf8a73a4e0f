/-
  The document's own ledger (regattaref12): rows of holders that are appended to; Join: contract.
  The document's own ledger (regattaref12): a holder that is changed in place; Ask: contract.
  The document's own ledger (regattaref12): Ask: contract.
-/
import Derived.Test.YtbonilmlfelmpaaGreatHoA
import Derived.Test.YtbonilmlfelmpaaGreatRpA
import Derived.Deep.RegionLaw
namespace Go.Proofs.YtbonilmlfelmpaaGreat
open Go.RowKit

theorem RowH.news {W : World} {ad : Addr} {len cap : Nat} {hs : List Hd} (h : RowH W (some ad) len cap hs) : ∀ j u, (hs.map Hd.cs).flatten[j]? = some u → W.cell? (ad.add j) = some u := by
  intro j u hu
  have hl := flatH_len hs
  have hj : j < hs.length * 6 := by
    rcases Nat.lt_or_ge j (hs.map Hd.cs).flatten.length with g | g
    · omega
    · rw [List.getElem?_eq_none g] at hu; cases hu
  have hi : j / 6 < hs.length := by omega
  have hs' : hs[j / 6]? = some hs[j / 6] := List.getElem?_eq_getElem hi
  obtain ⟨b, off, ha, hat⟩ := h.at hs'
  simp only [Option.some.injEq] at ha
  subst ha
  have hf := flatH_at hs' (k := j % 6) (by omega)
  rw [show j / 6 * 6 + j % 6 = j by omega, hu] at hf
  rw [addr_plain, show off + j = off + j / 6 * 6 + j % 6 by omega]
  have h6 : j % 6 < 6 := by omega
  obtain ⟨m, hm⟩ : ∃ m, j % 6 = m := ⟨_, rfl⟩
  rw [hm] at hf h6 ⊢
  match m, h6, hf with
  | 0, _, hf => rw [hf]; exact hat.c0
  | 1, _, hf => rw [hf]; exact hat.c1
  | 2, _, hf => rw [hf]; exact hat.c2
  | 3, _, hf => rw [hf]; exact hat.c3
  | 4, _, hf => rw [hf]; exact hat.c4
  | 5, _, hf => rw [hf]; exact hat.c5
theorem Blk.setH {W : World} {T : TypeId} {g : Nat} {cs : Array Value} (h : Blk W T g cs) (j : Nat) (v : Value) : Blk (W.setCell ⟨g, j, none⟩ v) T g (cs.setIfInBounds j v) := heap_setCell_same W g j cs T v h
end Go.Proofs.YtbonilmlfelmpaaGreat
namespace Go.Proofs.YtbonilmlfelmpaaGreat
open Go.RowKit

theorem cOther {w : World} {a b : Addr} {v : Value} (h : a ≠ b) : (w.setCell a v).cell? b = w.cell? b := World.cell?_setCell_other w a b v h
theorem cSame {w : World} {a : Addr} {v u : Value} (h : w.cell? a = some u) : (w.setCell a v).cell? a = some v := World.cell?_setCell_same w a v h
theorem hd_cell {W : World} {g o : Nat} {s : Hd} (h : HdAt W g o s) {k : Nat} (hk : k < 6) : W.cell? ⟨g, o + k, none⟩ = s.cs[k]? := by
  match k, hk with
  | 0, _ => exact h.c0
  | 1, _ => exact h.c1
  | 2, _ => exact h.c2
  | 3, _ => exact h.c3
  | 4, _ => exact h.c4
  | 5, _ => exact h.c5
theorem cs_len (s : Hd) : s.cs.length = 6 := rfl
theorem addr_ne {g a b : Nat} (h : a ≠ b) : (⟨g, a, none⟩ : Addr) ≠ ⟨g, b, none⟩ := fun e => h (by cases e; rfl)
theorem HdAt.set {W : World} {g o p : Nat} {s : Hd} (h : HdAt W g o s) (u : Value) (hp : p < o ∨ o + 6 ≤ p) : HdAt (W.setCell ⟨g, p, none⟩ u) g o s := by
  have q : ∀ k, k < 6 → (W.setCell ⟨g, p, none⟩ u).cell? ⟨g, o + k, none⟩ = W.cell? ⟨g, o + k, none⟩ := fun k hk => cOther (addr_ne (by omega))
  exact ⟨(q 0 (by omega)).trans h.c0, (q 1 (by omega)).trans h.c1, (q 2 (by omega)).trans h.c2, (q 3 (by omega)).trans h.c3, (q 4 (by omega)).trans h.c4, (q 5 (by omega)).trans h.c5⟩
def askH (x : Hd) (E P : Int) : Hd := ⟨x.id, x.E, x.P, E, P, true⟩
theorem HdAt.ask {W : World} {g o : Nat} {s : Hd} (h : HdAt W g o s) (E P : Int) : HdAt (((W.setCell ⟨g, o + 3, none⟩ (.int .i64 E)).setCell ⟨g, o + 4, none⟩ (.int .i64 P)).setCell ⟨g, o + 5, none⟩ (.bool true)) g o (askH s E P) := by
  have n : ∀ a b : Nat, a ≠ b → (⟨g, o + a, none⟩ : Addr) ≠ ⟨g, o + b, none⟩ := fun a b h => addr_ne (by omega)
  have n0 : ∀ b : Nat, 0 ≠ b → (⟨g, o + b, none⟩ : Addr) ≠ ⟨g, o, none⟩ := fun b h => addr_ne (by omega)
  refine ⟨?_, ?_, ?_, ?_, ?_, ?_⟩
  · rw [cOther (n0 5 (by omega)), cOther (n0 4 (by omega)), cOther (n0 3 (by omega))]; exact h.c0
  · rw [cOther (n 5 1 (by omega)), cOther (n 4 1 (by omega)), cOther (n 3 1 (by omega))]; exact h.c1
  · rw [cOther (n 5 2 (by omega)), cOther (n 4 2 (by omega)), cOther (n 3 2 (by omega))]; exact h.c2
  · rw [cOther (n 5 3 (by omega)), cOther (n 4 3 (by omega))]; exact cSame h.c3
  · rw [cOther (n 5 4 (by omega))]; exact cSame ((cOther (n 3 4 (by omega))).trans h.c4)
  · exact cSame ((cOther (n 4 5 (by omega))).trans ((cOther (n 3 5 (by omega))).trans h.c5))
end Go.Proofs.YtbonilmlfelmpaaGreat
namespace Go.Proofs.YtbonilmlfelmpaaGreat
open Go.RowKit

end Go.Proofs.YtbonilmlfelmpaaGreat

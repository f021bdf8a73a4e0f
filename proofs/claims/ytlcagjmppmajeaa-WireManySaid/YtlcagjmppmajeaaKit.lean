/-
  Words for rows of numbers in memory: what a slice reads as, whoever made it; no function of the program in sight.
-/
import Derived.WalkKit
import Derived.WalkSmall
import Derived.OpenShut
import Derived.Lib.Hide
import Derived.Deep.QuietTactic
import Derived.BigQuiet
namespace Go.Proofs.Ytlcagjmppmajeaa
open Go.RowKit

/-- the slice that leads to 'a', of 'len' elements, reads as the numbers zs -/
def Row (k : IntKind) (W : World) (a : Option Addr) (len cap : Nat) (zs : List Int) : Prop :=
  zs.length = len ∧ len ≤ cap ∧ cap ≤ 9223372036854775807 ∧ (a = none → cap = 0) ∧
    ∀ i, i < len → ∃ b off, a = some ⟨b, off, none⟩ ∧ W.cell? ⟨b, off + i, none⟩ = some (.int k (zs.getD i 0))

theorem Row.len {k : IntKind} {W : World} {a : Option Addr} {len cap : Nat} {zs : List Int} (h : Row k W a len cap zs) : zs.length = len := h.1
theorem Row.cap_le {k : IntKind} {W : World} {a : Option Addr} {len cap : Nat} {zs : List Int} (h : Row k W a len cap zs) : len ≤ cap ∧ cap ≤ 9223372036854775807 := ⟨h.2.1, h.2.2.1⟩
theorem Row.cell {k : IntKind} {W : World} {a : Option Addr} {len cap : Nat} {zs : List Int} (h : Row k W a len cap zs) {i : Nat} (hi : i < len) :
    ∃ b off, a = some ⟨b, off, none⟩ ∧ W.cell? ⟨b, off + i, none⟩ = some (.int k (zs.getD i 0)) := h.2.2.2.2 i hi
theorem Row.none_cap {k : IntKind} {W : World} {len cap : Nat} {zs : List Int} (h : Row k W none len cap zs) : len = 0 ∧ cap = 0 ∧ zs = [] := by
  have h1 := h.2.2.2.1 rfl
  have h2 := h.2.1
  have h3 := h.1
  exact ⟨by omega, h1, List.length_eq_zero_iff.mp (by omega)⟩
theorem Row.news {k : IntKind} {W : World} {ad : Addr} {len cap : Nat} {zs : List Int} (h : Row k W (some ad) len cap zs) : ∀ j u, (zs.map (Value.int k))[j]? = some u → W.cell? (ad.add j) = some u := by
  intro j u hj
  have hlt : j < len := by
    rcases Nat.lt_or_ge j len with g | g
    · exact g
    · rw [List.getElem?_eq_none (by rw [List.length_map, h.1]; exact g)] at hj; cases hj
  obtain ⟨b, off, ha, hc⟩ := h.2.2.2.2 j hlt
  obtain rfl : ad = ⟨b, off, none⟩ := by simpa using ha
  rw [List.getElem?_map, List.getElem?_eq_getElem (by rw [h.1]; exact hlt)] at hj
  rw [List.getD_eq_getElem?_getD, List.getElem?_eq_getElem (by rw [h.1]; exact hlt)] at hc
  simp at hj
  rw [← hj]
  by_cases h0 : j = 0
  · subst h0; simpa [Addr.add] using hc
  · simpa [Addr.add, h0] using hc
theorem ints_one (k : IntKind) (zs : List Int) : ∀ u ∈ zs.map (Value.int k), u.oneCell' = true := by
  intro u hu; simp at hu; obtain ⟨x, _, rfl⟩ := hu; rfl
theorem Row.below {k : IntKind} {W W' : World} {a : Option Addr} {len cap : Nat} {zs : List Int} (h : Row k W a len cap zs) (hb : Below W.heap.size W W') : Row k W' a len cap zs := by
  refine ⟨h.1, h.2.1, h.2.2.1, h.2.2.2.1, fun i hi => ?_⟩
  obtain ⟨b, off, ha, hc⟩ := h.2.2.2.2 i hi
  exact ⟨b, off, ha, (hb.cell (World.block_lt_of_cell? _ _ hc)).trans hc⟩
theorem Row.drewN {k : IntKind} {W : World} {a : Option Addr} {len cap : Nat} {zs : List Int} (h : Row k W a len cap zs) (n : Nat) : Row k (W.drewN n) a len cap zs := h
theorem Row.drew {k : IntKind} {W : World} {a : Option Addr} {len cap : Nat} {zs : List Int} (h : Row k W a len cap zs) : Row k W.drew a len cap zs := h
theorem Row.nil {k : IntKind} {W : World} : Row k W none 0 0 [] := ⟨rfl, by omega, by omega, (fun _ => rfl), (fun i hi => by omega)⟩
/-- fewer elements of it -/
theorem Row.take {k : IntKind} {W : World} {a : Option Addr} {len cap m : Nat} {zs : List Int} (h : Row k W a len cap zs) (hm : m ≤ len) : Row k W a m cap (zs.take m) := by
  refine ⟨by rw [List.length_take, h.1]; omega, by have := h.2.1; omega, h.2.2.1, h.2.2.2.1, fun i hi => ?_⟩
  obtain ⟨b, off, ha, hc⟩ := h.2.2.2.2 i (by omega)
  refine ⟨b, off, ha, ?_⟩
  rw [List.getD_eq_getElem?_getD, List.getElem?_take_of_lt hi, ← List.getD_eq_getElem?_getD]
  exact hc
/-- the row lies in a block from B on, or is nil -/
def Fresh (B : Nat) (a : Option Addr) : Prop := ∀ ad : Addr, a = some ad → B ≤ ad.block
theorem Fresh.none {B : Nat} : Fresh B none := fun _ h => by cases h
theorem Fresh.mono {B B' : Nat} {a : Option Addr} (h : Fresh B a) (hB : B' ≤ B) : Fresh B' a := fun ad e => Nat.le_trans hB (h ad e)
theorem row_of_owns {k : IntKind} {W : World} {base : Nat} {e : TypeId} {v : Value} {n : Nat} {zs : List Int} (h : W.ownsRow base e 1 v n (zs.map (Value.int k))) :
    ∃ a cap, v = .slice a n cap ∧ Row k W a n cap zs ∧ Fresh base a := by
  have hl : zs.length = n := by have := h.1; simpa using this
  rcases h.2 with ⟨hv, hn⟩ | ⟨g, cap, cur, hv, hbg, _, hcap, hmx, _, _⟩
  · refine ⟨none, 0, by rw [hv, hn], ⟨hl, by omega, by omega, (fun _ => rfl), (fun i hi => by omega)⟩, Fresh.none⟩
  · subst hv
    refine ⟨_, cap, rfl, ⟨hl, hcap, by unfold maxLen at hmx; omega, (fun h => by cases h), fun i hi => ⟨g, 0, rfl, ?_⟩⟩, fun ad e => by cases e; exact hbg⟩
    rw [Nat.zero_add, h.cellAt i (by omega), List.getElem?_map, List.getElem?_eq_getElem (by omega), List.getD_eq_getElem?_getD, List.getElem?_eq_getElem (by omega)]
    rfl

/-- how many elements a slice has: for a loop's measure -/
def lenOf : Value → Nat | .slice _ n _ => n | _ => 0

theorem ret_one {k : IntKind} {a b : Int} (h : a = b) : Ending.returned (.int k a) = .returned (.int k b) := by rw [h]
theorem ret_vi {v : Value} {k : IntKind} {a b : Int} (h : a = b) : Ending.returned (.tuple #[v, .int k a]) = .returned (.tuple #[v, .int k b]) := by rw [h]
theorem ret_two {k l : IntKind} {a b c d : Int} (h : a = b) (g : c = d) : Ending.returned (.tuple #[.int k a, .int l c]) = .returned (.tuple #[.int k b, .int l d]) := by rw [h, g]
/-- two calls, one behind the other -/
theorem below_next {w a b : World} (h : Below w.heap.size w a) (g : Below a.heap.size a b) : Below w.heap.size w b := h.trans (g.mono h.size)
theorem one_new (w : World) (x : Value) (t : TypeId) : ∀ j u, [x][j]? = some u → (w.alloc (.cells #[x] t)).cell? ((⟨w.heap.size, 0, none⟩ : Addr).add j) = some u := by
  intro j u hj
  match j, hj with
  | 0, hj => simp at hj; subst hj; simp [Addr.add]
theorem one_cell (k : IntKind) (x : Int) : ∀ u ∈ [Value.int k x], u.oneCell' = true := by
  intro u hu; simp at hu; subst hu; rfl
/-- a row is as it was behind an append to another block -/
theorem Row.apart {k : IntKind} {W W' : World} {a : Option Addr} {len cap : Nat} {zs : List Int} {row : Option Nat} (h : Row k W a len cap zs) (hg : W.grownBy W' row) (hne : ∀ ad : Addr, a = some ad → some ad.block ≠ row) : Row k W' a len cap zs := by
  refine ⟨h.1, h.2.1, h.2.2.1, h.2.2.2.1, fun i hi => ?_⟩
  obtain ⟨b, off, ha, hc⟩ := h.2.2.2.2 i hi
  refine ⟨b, off, ha, ?_⟩
  rw [World.cell?_of_block (w := W) (hg.block b (World.block_lt_of_cell? _ _ hc) (fun e => hne _ ha e))]
  exact hc
theorem Row.setCell {k : IntKind} {W : World} {a : Option Addr} {len cap : Nat} {zs : List Int} (h : Row k W a len cap zs) (p : Addr) (v : Value) (hne : ∀ ad : Addr, a = some ad → ad.block ≠ p.block) : Row k (W.setCell p v) a len cap zs := by
  refine ⟨h.1, h.2.1, h.2.2.1, h.2.2.2.1, fun i hi => ?_⟩
  obtain ⟨b, off, ha, hc⟩ := h.2.2.2.2 i hi
  refine ⟨b, off, ha, ?_⟩
  rw [World.cell?_of_block (w := W) (Below.heap_setCell W p v b (hne _ ha))]
  exact hc
/-- what is owned stays owned behind a call that writes nothing that was there -/
theorem owns_below {wr w2 : World} {base : Nat} {e : TypeId} {size : Nat} {v : Value} {n : Nat} {xs : List Value} (h : wr.ownsRow base e size v n xs) (hb : Below wr.heap.size wr w2) : w2.ownsRow base e size v n xs := by
  refine ⟨h.1, ?_⟩
  rcases h.2 with hn | ⟨g, cap, cur, hv, hbg, hg, h1, h2, h3, h4⟩
  · exact .inl hn
  · subst hv
    exact .inr ⟨g, cap, cur, rfl, hbg, by rw [hb.block g (h.lt g rfl).2]; exact hg, h1, h2, h3, h4⟩
/-- what is owned behind an append of one number -/
theorem owns_snoc {k : IntKind} {W : World} {base : Nat} {e : TypeId} {v : Value} {n : Nat} {ds : List Int} {x : Int} (h : W.ownsRow base e 1 v (n + 1) (ds.map (Value.int k) ++ [Value.int k x])) :
    W.ownsRow base e 1 v (n + 1) ((ds ++ [x]).map (Value.int k)) := by
  rw [List.map_append]; exact h
/-- .. and of old memory -/
theorem below_append {w wr w2 : World} {e : TypeId} {v : Value} {n : Nat} {xs : List Value} {o : Obj} (hb : Below w.heap.size w wr) (ho : wr.ownsRow w.heap.size e 1 v n xs) (hg : (wr.alloc o).grownBy w2 v.ownBlock) : Below w.heap.size w w2 :=
  (hb.alloc hb.size _).grown hg (by have := hb.size; simp; omega) (fun g hg => (ho.lt g hg).1)

theorem quiet_add {P : Program} {f : FuncId} {args : Array Value} {w : World} {a n : Nat} {v : Value}
    (h : Calls P f args (w.drewN (a + n)) fun e w' => e = .returned v ∧ ∃ m, w' = (w.drewN (a + n)).drewN m) :
    Calls P f args (w.drewN (a + n)) fun e w'' => e = .returned v ∧ ∃ m, w'' = w.drewN (a + m) :=
  h.mono fun _ _ ⟨he, m, hm⟩ => ⟨he, n + m, by rw [hm, World.drewN_drewN, Nat.add_assoc]⟩
theorem quiet_add_left {P : Program} {f : FuncId} {args : Array Value} {w : World} {a n : Nat} {v : Value}
    (h : Calls P f args (w.drewN (a + n)) fun e w' => e = .returned v ∧ w.drewN (a + n) = w') :
    Calls P f args (w.drewN (a + n)) fun e w'' => e = .returned v ∧ ∃ m, w'' = w.drewN (a + m) :=
  h.mono fun _ _ ⟨he, hm⟩ => ⟨he, n, hm.symm⟩
theorem quiet_left {P : Program} {f : FuncId} {args : Array Value} {w : World} {n : Nat} {v : Value}
    (h : Calls P f args (w.drewN n) fun e w' => e = .returned v ∧ w.drewN n = w') : Calls P f args (w.drewN n) fun e w'' => e = .returned v ∧ ∃ m, w'' = w.drewN m :=
  h.mono fun _ _ ⟨he, hm⟩ => ⟨he, n, hm.symm⟩

/-- a call that answers a row of numbers that may be described by P, and writes nothing that was there -/
def Gives (k : IntKind) (w : World) (P : List Int → Prop) (e : Ending) (w' : World) : Prop :=
  ∃ a len cap zs, e = .returned (.slice a len cap) ∧ Row k w' a len cap zs ∧ P zs ∧ Below w.heap.size w w' ∧ Fresh w.heap.size a
/-- .. the very row, with fewer elements -/
def Cuts (k : IntKind) (w : World) (a : Option Addr) (cap : Nat) (P : List Int → Prop) (e : Ending) (w' : World) : Prop :=
  ∃ len zs, e = .returned (.slice a len cap) ∧ Row k w a len cap zs ∧ P zs ∧ w = w'
/-- .. and makes nothing either -/
def Shows (k : IntKind) (w : World) (P : List Int → Prop) (e : Ending) (w' : World) : Prop :=
  ∃ a len cap zs, e = .returned (.slice a len cap) ∧ Row k w a len cap zs ∧ P zs ∧ w = w'
end Go.Proofs.Ytlcagjmppmajeaa

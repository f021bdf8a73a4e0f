/-
  Rows of structs of numbers: what is read of them, what they are behind a call, an append, a cut; no function of the program in sight.
-/
import Derived.Test.YtlcagjmppmajeaaKit
import Derived.Test.YtlcagjmppmajeaaFlat
import Derived.Deep.AppendLies
import Derived.Laws.AppendOwnNone
namespace Go.Proofs.Ytlcagjmppmajeaa
open Go.RowKit

theorem RowF.len {W : World} {a : Option Addr} {len cap c : Nat} {rs : List (List Value)} (h : RowF W a len cap c rs) : rs.length = len := h.1
theorem RowF.cap_le {W : World} {a : Option Addr} {len cap c : Nat} {rs : List (List Value)} (h : RowF W a len cap c rs) : len ≤ cap ∧ cap ≤ 9223372036854775807 := ⟨h.2.1, h.2.2.1⟩
theorem RowF.nil {W : World} {c : Nat} : RowF W none 0 0 c [] := ⟨rfl, by omega, by omega, (fun _ => rfl), (fun i hi => by omega)⟩
theorem RowF.drew {W : World} {a : Option Addr} {len cap c : Nat} {rs : List (List Value)} (h : RowF W a len cap c rs) : RowF W.drew a len cap c rs := h
theorem RowF.none_cap {W : World} {len cap c : Nat} {rs : List (List Value)} (h : RowF W none len cap c rs) : len = 0 ∧ cap = 0 ∧ rs = [] := by
  have h1 := h.2.2.2.1 rfl
  have h2 := h.2.1
  have h3 := h.1
  exact ⟨by omega, h1, List.length_eq_zero_iff.mp (by omega)⟩
/-- each row has so many cells -/
def Wide (c : Nat) (rs : List (List Value)) : Prop := ∀ r ∈ rs, r.length = c
theorem Wide.getD {c : Nat} {rs : List (List Value)} (h : Wide c rs) {i : Nat} (hi : i < rs.length) : (rs.getD i []).length = c := by
  rw [List.getD_eq_getElem?_getD, List.getElem?_eq_getElem hi]
  exact h _ (List.getElem_mem hi)
theorem Wide.nil {c : Nat} : Wide c [] := fun _ h => by cases h
theorem Wide.append {c : Nat} {x y : List (List Value)} (h : Wide c x) (g : Wide c y) : Wide c (x ++ y) := fun r hr => by
  rcases List.mem_append.mp hr with q | q
  · exact h r q
  · exact g r q
theorem RowF.below {W W' : World} {a : Option Addr} {len cap c : Nat} {rs : List (List Value)} (hw : Wide c rs) (h : RowF W a len cap c rs) (hb : Below W.heap.size W W') : RowF W' a len cap c rs := by
  refine ⟨h.1, h.2.1, h.2.2.1, h.2.2.2.1, fun i hi => ?_⟩
  obtain ⟨b, off, ha, hc⟩ := h.2.2.2.2 i hi
  refine ⟨b, off, ha, fun j hj => ?_⟩
  have hl := hw.getD (show i < rs.length by rw [h.1]; exact hi)
  have := hc j hj
  rw [List.getElem?_eq_getElem (by omega)] at this ⊢
  exact (hb.cell (World.block_lt_of_cell? _ _ this)).trans this
/-- the block is as it was -/
theorem RowF.same {W W' : World} {a : Option Addr} {len cap c : Nat} {rs : List (List Value)} (h : RowF W a len cap c rs) (hb : ∀ ad : Addr, a = some ad → W'.heap[ad.block]? = W.heap[ad.block]?) : RowF W' a len cap c rs := by
  refine ⟨h.1, h.2.1, h.2.2.1, h.2.2.2.1, fun i hi => ?_⟩
  obtain ⟨b, off, ha, hc⟩ := h.2.2.2.2 i hi
  refine ⟨b, off, ha, fun j hj => ?_⟩
  exact (World.cell?_of_block (w := W) (a := ⟨b, off + i * c + j, none⟩) (show W'.heap[b]? = W.heap[b]? from hb ⟨b, off, none⟩ ha)).trans (hc j hj)
theorem RowF.take {W : World} {a : Option Addr} {len cap c m : Nat} {rs : List (List Value)} (h : RowF W a len cap c rs) (hm : m ≤ len) : RowF W a m cap c (rs.take m) := by
  refine ⟨by rw [List.length_take, h.1]; omega, by have := h.2.1; omega, h.2.2.1, h.2.2.2.1, fun i hi => ?_⟩
  obtain ⟨b, off, ha, hc⟩ := h.2.2.2.2 i (by omega)
  refine ⟨b, off, ha, ?_⟩
  rw [List.getD_eq_getElem?_getD, List.getElem?_take_of_lt hi, ← List.getD_eq_getElem?_getD]
  exact hc
theorem flat_at {c : Nat} (rs : List (List Value)) (hw : Wide c rs) (i : Nat) (hi : i < rs.length) (j : Nat) (hj : j < c) : rs.flatten[i * c + j]? = (rs.getD i [])[j]? := by
  induction rs generalizing i with
  | nil => simp at hi
  | cons r rs ih =>
    have hr : r.length = c := hw r (List.mem_cons_self ..)
    rw [List.flatten_cons]
    cases i with
    | zero => rw [Nat.zero_mul, Nat.zero_add, List.getElem?_append_left (by omega)]; rfl
    | succ i =>
      rw [List.getElem?_append_right (by rw [hr, Nat.succ_mul]; omega), show (i + 1) * c + j - r.length = i * c + j by rw [hr, Nat.succ_mul]; omega]
      exact ih (fun r' h => hw r' (List.mem_cons_of_mem _ h)) i (by simpa using hi)
theorem flat_len {c : Nat} (rs : List (List Value)) (hw : Wide c rs) : rs.flatten.length = rs.length * c := by
  induction rs with
  | nil => simp
  | cons r rs ih =>
    have hr : r.length = c := hw r (List.mem_cons_self ..)
    rw [List.flatten_cons, List.length_append, hr, ih (fun r' h => hw r' (List.mem_cons_of_mem _ h)), List.length_cons, Nat.succ_mul]; omega
/-- what is owned, as a row -/
theorem rowF_of_owns {W : World} {base c : Nat} {e : TypeId} {v : Value} {n : Nat} {rs : List (List Value)} (hw : Wide c rs) (h : W.ownsRow base e c v n rs.flatten) (hn : rs.length = n) :
    ∃ a cap, v = .slice a n cap ∧ RowF W a n cap c rs ∧ Fresh base a := by
  rcases h.2 with ⟨hv, hn0⟩ | ⟨g, cap, cur, hv, hbg, _, hcap, hmx, _, _⟩
  · refine ⟨none, 0, by rw [hv, hn0], ⟨hn, by omega, by omega, (fun _ => rfl), (fun i hi => by omega)⟩, Fresh.none⟩
  · subst hv
    refine ⟨_, cap, rfl, ⟨hn, hcap, by unfold maxLen at hmx; omega, (fun h => by cases h), fun i hi => ⟨g, 0, rfl, fun j hj => ?_⟩⟩, fun ad e => by cases e; exact hbg⟩
    have hlt : i * c + j < n * c := by
      have := Nat.mul_le_mul_right c (show i + 1 ≤ n by omega)
      rw [Nat.succ_mul] at this; omega
    rw [Nat.zero_add, h.cellAt (i * c + j) (by first | exact hlt | (rw [flat_len rs hw, hn]; exact hlt))]
    exact flat_at rs hw i (by omega) j hj
/-- the cells of a row, as what is appended -/
theorem RowF.news {W : World} {ad : Addr} {len cap c : Nat} {rs : List (List Value)} (hw : Wide c rs) (h : RowF W (some ad) len cap c rs) : ∀ j u, rs.flatten[j]? = some u → W.cell? (ad.add j) = some u := by
  intro j u hj
  have hlt : j < rs.length * c := by
    rcases Nat.lt_or_ge j (rs.length * c) with g | g
    · exact g
    · rw [List.getElem?_eq_none (by rw [flat_len rs hw]; exact g)] at hj; cases hj
  have hc0 : 0 < c := by
    rcases Nat.eq_zero_or_pos c with z | z
    · subst z; simp at hlt
    · exact z
  have hi : j / c < rs.length := Nat.div_lt_of_lt_mul (by rw [Nat.mul_comm]; exact hlt)
  obtain ⟨b, off, ha, hc⟩ := h.2.2.2.2 (j / c) (by rw [← h.1]; exact hi)
  obtain rfl : ad = ⟨b, off, none⟩ := by simpa using ha
  have h1 := hc (j % c) (Nat.mod_lt _ hc0)
  rw [← flat_at rs hw (j / c) hi (j % c) (Nat.mod_lt _ hc0)] at h1
  have e : j / c * c + j % c = j := by rw [Nat.mul_comm]; exact Nat.div_add_mod j c
  rw [e, hj, Nat.add_assoc, e] at h1
  rw [addr_plain]
  exact h1
/-- a call that answers a new row of structs -/
def GivesF (w : World) (c : Nat) (rs : List (List Value)) (e : Ending) (w' : World) : Prop :=
  ∃ a len cap, e = .returned (.slice a len cap) ∧ RowF w' a len cap c rs ∧ Below w.heap.size w w' ∧ Fresh w.heap.size a
/-- append of a whole row to what is owned -/
theorem wpList_append_rowF {P : Program} {w : World} {ops : Array Oper} {rest : List Oper} {o : Oper} {act : Act} {Q : Exit → Act → World → Prop} (hgd : o.guard = none) (s x : Operand) (t : TypeId)
    (ho : o.op = .call { callee := .builtin .append, args := #[s, x], argTypes := #[t, t] }) (base : Nat) (e : TypeId) (i : TypeInfo) (z : Value) (size bytes : Nat) (h1 : P.underlying t = some (.slice e)) (h2 : P.info? e = some i) (h3 : i.zero = some z) (h4 : i.size = size) (h5 : i.bytes = bytes) (h6 : z.cells.size = size) (h7 : 0 < size) (hby : bytes ≤ 1000)
    (v : Value) (rs0 : List (List Value)) (n0 : Nat) (hs : act.eval s = v)
    (hown : w.ownsRow base e size v n0 rs0.flatten) (A : Option Addr) (m c : Nat) (rs : List (List Value)) (hx : act.eval x = .slice A m c) (hr : RowF w A m c size rs) (hw : Wide size rs) (hone : ∀ r ∈ rs, ∀ u ∈ r, u.oneCell' = true) (hb : base ≤ w.heap.size) (hsm : n0 + m ≤ 100000)
    (h : ∀ v' w', w'.ownsRow base e size v' (n0 + m) (rs0 ++ rs).flatten → w.grownBy w' v.ownBlock → wpList P ops Q rest (act.put o.dst v') w') : wpList P ops Q (o :: rest) act w := by
  rcases A with _ | ad
  · obtain ⟨hm, hc, hps⟩ := hr.none_cap
    subst hc hm hps
    refine wpList_append_own_none hgd s x _ ho base _ i size h1 h2 v _ _ hs hown hx ?_
    exact h v w (by rw [List.append_nil]; exact hown) (World.grownBy.refl w _)
  · refine wpList_append_own _ hgd s x _ ho base _ i z size bytes h1 h2 h3 h4 h5 h6 h7 v _ _ hs hown ad m c rs.flatten hx (by rw [flat_len rs hw, hr.len]) (hr.news hw) (fun u hu => by obtain ⟨r, hr1, hr2⟩ := List.mem_flatten.mp hu; exact hone r hr1 u hr2) (by unfold maxLen; omega) (by have := Nat.mul_le_mul hsm hby; omega) hb ?_
    intro v2 w2 ho2 hg2 _
    refine h v2 w2 ?_ hg2
    rw [List.flatten_append]
    exact ho2
end Go.Proofs.Ytlcagjmppmajeaa

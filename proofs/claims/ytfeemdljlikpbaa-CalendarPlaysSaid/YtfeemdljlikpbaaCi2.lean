/-
  Plain facts for the laws of calendar: near events, places, counts; events that were handed over.
-/
import Derived.Test.YtfeemdljlikpbaaCi1
import Derived.Test.YtfeemdljlikpbaaFlat2
namespace Go.Proofs.Ytfeemdljlikpbaa
open Go.RowKit

theorem and_bd (x n : Int) (h0 : 0 ≤ n) (h1 : n ≤ 15) : 0 ≤ bits .and .i64 x n ∧ bits .and .i64 x n ≤ n := by
  have hn : (BitVec.ofInt 64 n).toNat = n.toNat := by
    rw [BitVec.toNat_ofInt]
    omega
  have h : (BitVec.ofInt 64 x &&& BitVec.ofInt 64 n).toNat ≤ n.toNat := by
    rw [BitVec.toNat_and, hn]
    exact Nat.and_le_right
  have e : bits .and .i64 x n = ((BitVec.ofInt 64 x &&& BitVec.ofInt 64 n).toNat : Int) := by
    show IntKind.i64.wrap ((BitVec.ofInt 64 x &&& BitVec.ofInt 64 n).toNat : Int) = _
    exact IntWalk.i64_in _ (by omega)
  omega
theorem near_bd (e : Ev) : (0 ≤ (nearE e).d ∧ (nearE e).d ≤ 15) ∧ (0 ≤ (nearE e).i ∧ (nearE e).i ≤ 7) ∧ (0 ≤ (nearE e).k ∧ (nearE e).k ≤ 3) :=
  ⟨and_bd _ 15 (by omega) (by omega), and_bd _ 7 (by omega) (by omega), and_bd _ 3 (by omega) (by omega)⟩
theorem near_good (e : Ev) : ¬ BadE (nearE e) := by
  have := near_bd e
  unfold BadE
  omega
theorem placeV_neg {es : List Ev} {id kind : Int} (h : placeV es id kind = -1) : ∀ t ∈ es, isE id kind t = false := by
  unfold placeV at h
  split at h
  · omega
  · rename_i q
    exact List.findIdx?_eq_none_iff.mp q
theorem placeV_pos {es : List Ev} {id kind : Int} {x : Ev} (h : x ∈ es) (q : isE id kind x = true) : 0 ≤ placeV es id kind := by
  have pb := placeV_bound es id kind
  rcases Int.lt_or_le (placeV es id kind) 0 with p | p
  · have := placeV_neg (show placeV es id kind = -1 by omega) x h
    rw [q] at this; cases this
  · exact p
theorem placeV_is {es : List Ev} {id kind : Int} {k : Nat} {x : Ev} (h : placeV es id kind = k) (hx : es[k]? = some x) : x.i = id ∧ x.k = kind := by
  unfold placeV at h
  split at h
  · rename_i i hi
    obtain rfl : i = k := by omega
    rw [List.findIdx?_eq_some_iff_getElem] at hi
    obtain ⟨hl, h1, _⟩ := hi
    rw [List.getElem?_eq_getElem hl] at hx
    simp at hx
    rw [hx] at h1
    unfold isE at h1
    simpa using h1
  · omega
theorem mem_insV {e x : Ev} {l : List Ev} : x ∈ insV e l ↔ x = e ∨ x ∈ l := by
  rw [(insV_perm e l).mem_iff]
  exact List.mem_cons
theorem isE_self (e : Ev) : isE e.i e.k e = true := by unfold isE; simp
/-- what was dropped is there no more -/
theorem dropped_gone {es : List Ev} (h : OwnV es) {id kind : Int} {k : Nat} {x : Ev} (hp : placeV es id kind = k) (hx : es[k]? = some x) : placeV (es.eraseIdx k) id kind = -1 := by
  refine placeV_none fun t ht => ?_
  obtain ⟨rfl, rfl⟩ := placeV_is hp hx
  have hk := h.keys
  rw [List.pairwise_iff_getElem] at hk
  have kl : k < es.length := by
    rcases Nat.lt_or_ge k es.length with q | q
    · exact q
    · rw [List.getElem?_eq_none q] at hx; cases hx
  rw [List.getElem?_eq_getElem kl] at hx
  simp at hx
  rw [List.mem_eraseIdx_iff_getElem] at ht
  obtain ⟨j, hj, jk, rfl⟩ := ht
  have ne : ¬ (es[j].i = x.i ∧ es[j].k = x.k) := by
    rcases Nat.lt_or_ge j k with q | q
    · have := hk j k hj kl q
      rwa [hx] at this
    · have := hk k j kl hj (by omega)
      rw [hx] at this
      exact fun r => this ⟨r.1.symm, r.2.symm⟩
  unfold isE
  simpa using ne
theorem dueN_whole {es : List Ev} {t : Int} (h : ∀ x ∈ es, x.d ≤ t) : dueN es t = es.length :=
  dueN_all es t es.length (Nat.le_refl _) (fun s hs => h s (List.mem_of_mem_take hs)) (fun e he => by rw [List.getElem?_eq_none (Nat.le_refl _)] at he; cases he)
/-- how many of the first i have that key -/
def keyN (es : List Ev) (id kind : Int) (i : Nat) : Nat := (es.take i).countP (isE id kind)
theorem keyN_zero (es : List Ev) (id kind : Int) : keyN es id kind 0 = 0 := by unfold keyN; simp
theorem keyN_next {es : List Ev} {id kind : Int} {i : Nat} {x : Ev} (hx : es[i]? = some x) : keyN es id kind (i + 1) = keyN es id kind i + (if isE id kind x then 1 else 0) := by
  unfold keyN
  rw [List.take_add_one, hx, List.countP_append]
  simp [List.countP_cons]
theorem keyN_le (es : List Ev) (id kind : Int) (i : Nat) : keyN es id kind i ≤ i := by
  unfold keyN
  exact Nat.le_trans List.countP_le_length (by rw [List.length_take]; omega)
theorem keyN_one {e : Ev} {es : List Ev} (h : placeV es e.i e.k = -1) : keyN (insV e es) e.i e.k (insV e es).length = 1 := by
  unfold keyN
  rw [List.take_of_length_le (Nat.le_refl _), (insV_perm e es).countP_eq, List.countP_cons, if_pos (isE_self e)]
  have : es.countP (isE e.i e.k) = 0 := by
    rw [List.countP_eq_zero]
    intro a ha
    rw [placeV_neg h a ha]
    decide
  omega
/-- what events that were handed over are -/
theorem events_of_flat {w : World} {a : Option Addr} {len cap : Nat} {rs : List (List Value)} (h : RowF w a len cap 3 rs) (g : ∀ r ∈ rs, Fit [.int .i64, .int .i64, .int .i64] r) : ∃ es, RowV w a len cap es := by
  have : ∃ es : List Ev, rs = es.map Ev.cs := by
    clear h
    induction rs with
    | nil => exact ⟨[], rfl⟩
    | cons r rs ih =>
      obtain ⟨es, he⟩ := ih (fun r' hr => g r' (List.mem_cons_of_mem _ hr))
      have gr := g r (List.mem_cons_self ..)
      obtain ⟨z0, q0, rfl, _, gr⟩ := gr.int
      obtain ⟨z1, q1, rfl, _, gr⟩ := gr.int
      obtain ⟨z2, q2, rfl, _, gr⟩ := gr.int
      have := gr.nil
      subst this
      exact ⟨⟨z0, z1, z2⟩ :: es, by rw [he]; rfl⟩
  obtain ⟨es, rfl⟩ := this
  exact ⟨es, h⟩
end Go.Proofs.Ytfeemdljlikpbaa

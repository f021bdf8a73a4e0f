/-
  Plain facts for the landed calendar: its order, its numbers, what a list of events in order is.
-/
import Derived.Test.YtfeemdljlikpbaaCi7
import Derived.Test.YtfeemdljlikpbaaHe12
namespace Go.Proofs.Ytfeemdljlikpbaa
open Go.RowKit

def earlB (a b : Ev) : Bool := decide (a.d < b.d)
theorem ordEarl : OrdE earlB := ⟨fun a b h => by unfold earlB at *; simp at *; omega, fun a b c h k => by unfold earlB at *; simp at *; omega⟩
instance : Nonempty (OrdE earlB) := ⟨ordEarl⟩
/-- an event by its number -/
def teV (e : Ev) : Te := ⟨e.k * 1024 + e.i, e⟩
theorem befB_iff {a b : Ev} : befB a b = true ↔ a.d < b.d ∨ (a.d = b.d ∧ (a.k < b.k ∨ (a.k = b.k ∧ a.i < b.i))) := by unfold befB; simp
theorem good_iff {e : Ev} : ¬ BadE e ↔ 0 ≤ e.i ∧ e.i ≤ 1023 ∧ 0 ≤ e.k ∧ e.k ≤ 7 ∧ 0 ≤ e.d := by unfold BadE; omega
theorem ahead_bef {a b : Ev} (ha : ¬ BadE a) (hb : ¬ BadE b) (h : befB a b = true) : AheadE earlB (teV a) (teV b) := by
  rw [good_iff] at ha hb
  rw [befB_iff] at h
  unfold AheadE earlB teV
  simp
  omega
theorem bef_ahead {a b : Ev} (ha : ¬ BadE a) (hb : ¬ BadE b) (h : AheadE earlB (teV a) (teV b)) : befB a b = true := by
  rw [good_iff] at ha hb
  rw [befB_iff]
  unfold AheadE earlB teV at h
  simp at h
  omega
theorem num_same {a : Ev} {i k : Int} (ha : ¬ BadE a) (h0 : 0 ≤ i) (h1 : i ≤ 1023) : (teV a).n = k * 1024 + i ↔ isE i k a = true := by
  rw [good_iff] at ha
  unfold teV isE
  simp
  omega
theorem inr_num {i k : Int} (h0 : 0 ≤ i) (h1 : i ≤ 1023) (h2 : 0 ≤ k) (h3 : k ≤ 7) : InRE (k * 1024 + i) := by unfold InRE; omega
theorem firstV {es : List Ev} (h : OwnV es) {t : Te} (ht : t ∈ es.map teV) (hm : MinInE earlB (es.map teV) t) : ∃ x, es[0]? = some x ∧ t = teV x := by
  rcases es with _ | ⟨x, r⟩
  · cases ht
  · refine ⟨x, rfl, ?_⟩
    rw [List.mem_map] at ht
    obtain ⟨e, he, rfl⟩ := ht
    rcases List.mem_cons.mp he with q | q
    · rw [q]
    · have hs := List.rel_of_pairwise_cons h.sorted q
      exact absurd (ahead_bef (h.good x (by simp)) (h.good e he) hs) (hm (teV x) (by simp))
theorem ownV_nil : OwnV [] := ⟨List.Pairwise.nil, List.Pairwise.nil, fun _ h => by cases h⟩
theorem ownV_sub {es es' : List Ev} (h : OwnV es) (s : es'.Sublist es) : OwnV es' := ⟨h.sorted.sublist s, h.keys.sublist s, fun e he => h.good e (s.subset he)⟩
theorem ownV_erase {es : List Ev} (h : OwnV es) (k : Nat) : OwnV (es.eraseIdx k) := ownV_sub h (List.eraseIdx_sublist ..)
theorem ownV_drop {es : List Ev} (h : OwnV es) (k : Nat) : OwnV (es.drop k) := ownV_sub h (List.drop_sublist ..)
theorem insV_sorted {x : Ev} {l : List Ev} (h : l.Pairwise (fun a b => befB a b = true)) (hx : ∀ y ∈ l, ¬ (y.i = x.i ∧ y.k = x.k)) : (insV x l).Pairwise (fun a b => befB a b = true) := by
  induction l with
  | nil => exact List.pairwise_singleton _ _
  | cons y r ih =>
    rw [List.pairwise_cons] at h
    have hy := hx y (by simp)
    by_cases q : befB x y = true
    · rw [insV_put x y r q, List.pairwise_cons]
      refine ⟨fun z hz => ?_, List.pairwise_cons.mpr h⟩
      rcases List.mem_cons.mp hz with e | e
      · rw [e]; exact q
      · have := h.1 z e
        rw [befB_iff] at q this ⊢
        omega
    · have q' : befB x y = false := by simpa using q
      rw [insV_on x y r q', List.pairwise_cons]
      refine ⟨fun z hz => ?_, ih h.2 (fun z hz => hx z (by simp [hz]))⟩
      rcases mem_insV.mp hz with e | e
      · rw [e]
        rw [befB_iff] at q ⊢
        omega
      · exact h.1 z e
theorem ownV_ins {e : Ev} {es : List Ev} (h : OwnV es) (hg : ¬ BadE e) (hp : placeV es e.i e.k = -1) : OwnV (insV e es) := by
  have no : ∀ y ∈ es, ¬ (y.i = e.i ∧ y.k = e.k) := fun y hy q => by
    have := placeV_neg hp y hy
    unfold isE at this
    simp at this
    exact this q.1 q.2
  refine ⟨insV_sorted h.sorted no, ?_, fun z hz => ?_⟩
  · refine (List.Perm.pairwise_iff (fun {a b} hab => fun q => hab ⟨q.1.symm, q.2.symm⟩) (insV_perm e es)).mpr ?_
    rw [List.pairwise_cons]
    exact ⟨fun y hy q => no y hy ⟨q.1.symm, q.2.symm⟩, h.keys⟩
  · rcases mem_insV.mp hz with q | q
    · rw [q]; exact hg
    · exact h.good z q
/-- the things that are there by that number -/
theorem num_none {es : List Ev} (h : OwnV es) {i k : Int} (h0 : 0 ≤ i) (h1 : i ≤ 1023) (hn : ∀ t ∈ es.map teV, t.n ≠ k * 1024 + i) : placeV es i k = -1 :=
  placeV_none fun e he => by
    have := hn (teV e) (List.mem_map_of_mem he)
    rw [ne_eq, num_same (h.good e he) h0 h1] at this
    simpa using this
theorem num_place {es : List Ev} (h : OwnV es) {i k : Int} {t : Te} (h0 : 0 ≤ i) (h1 : i ≤ 1023) (ht : t ∈ es.map teV) (hn : t.n = k * 1024 + i) : ∃ (j : Nat) (x : Ev), placeV es i k = j ∧ es[j]? = some x ∧ t = teV x := by
  rw [List.mem_map] at ht
  obtain ⟨x, hx, rfl⟩ := ht
  have q := (num_same (h.good x hx) h0 h1).mp hn
  have hp := placeV_pos hx q
  have hb := placeV_bound es i k
  obtain ⟨j, hj⟩ : ∃ j : Nat, placeV es i k = (j : Int) := ⟨(placeV es i k).toNat, by omega⟩
  obtain ⟨y, hy⟩ := getV (es := es) (i := j) (by omega)
  refine ⟨j, y, hj, hy, ?_⟩
  have h2 := placeV_is hj hy
  have h3 : x.i = i ∧ x.k = k := by unfold isE at q; simpa using q
  obtain ⟨m, hm⟩ := List.getElem?_of_mem hx
  have ml : m < es.length := by
    rcases Nat.lt_or_ge m es.length with z | z
    · exact z
    · rw [List.getElem?_eq_none z] at hm; cases hm
  have jl : j < es.length := by omega
  rw [List.getElem?_eq_getElem ml] at hm
  rw [List.getElem?_eq_getElem jl] at hy
  simp at hm hy
  have hk := h.keys
  rw [List.pairwise_iff_getElem] at hk
  rcases Nat.lt_trichotomy j m with z | z | z
  · have := hk j m jl ml z
    rw [hm, hy] at this
    exact absurd ⟨h2.1.trans h3.1.symm, h2.2.trans h3.2.symm⟩ this
  · subst z
    rw [← hm, ← hy]
  · have := hk m j ml jl z
    rw [hm, hy] at this
    exact absurd ⟨h3.1.trans h2.1.symm, h3.2.trans h2.2.symm⟩ this
theorem bad_place {es : List Ev} (h : OwnV es) {i k : Int} (hb : i < 0 ∨ 1023 < i ∨ k < 0 ∨ 7 < k) : placeV es i k = -1 :=
  placeV_none fun e he => by
    have := good_iff.mp (h.good e he)
    unfold isE
    simp
    omega
theorem perm_cons_of {es : List Ev} {us : List Te} {j : Nat} {x : Ev} (hx : es[j]? = some x) (hp : (es.map teV).Perm (teV x :: us)) : us.Perm ((es.eraseIdx j).map teV) := by
  have jl : j < es.length := by
    rcases Nat.lt_or_ge j es.length with z | z
    · exact z
    · rw [List.getElem?_eq_none z] at hx; cases hx
  have e : es[j] = x := by
    rw [List.getElem?_eq_getElem jl] at hx
    simpa using hx
  have : (es.map teV).Perm (teV x :: (es.eraseIdx j).map teV) := by
    have p : es.Perm (x :: es.eraseIdx j) := by
      rw [← erase_parts, ← e]
      have h1 : es = es.take j ++ es[j] :: es.drop (j + 1) := by rw [List.getElem_cons_drop, List.take_append_drop]
      exact (List.Perm.of_eq h1).trans List.perm_middle
    exact p.map teV
  exact (List.perm_cons (teV x)).mp (hp.symm.trans this)
end Go.Proofs.Ytfeemdljlikpbaa

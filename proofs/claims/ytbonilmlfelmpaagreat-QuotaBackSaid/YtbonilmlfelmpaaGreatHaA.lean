/-
  What is asked of a ledger, as plain data: who holds what behind each call. No function of the program in sight.
  What is asked of package hold: its contracts, for whatever lies in memory; what the laws carry along. (Written by wip/tools/gen_ha1.py.)
  The document's own ledger once more, in the words of what is asked; the laws' own numbers.
  The laws' own one, made, awake: contracts.
-/
import Derived.Test.YtbonilmlfelmpaaGreatHoA
import Derived.Test.YtbonilmlfelmpaaGreatHoB
import Derived.Test.YtbonilmlfelmpaaGreatHoC
import Derived.Test.YtbonilmlfelmpaaGreatRpA
import Derived.Test.YtbonilmlfelmpaaGreatRqA
import Derived.Test.YtbonilmlfelmpaaGreatWinA
import Derived.StillTailTactics
namespace Go.Proofs.YtbonilmlfelmpaaGreat
open Go.RowKit

def mayB (E P : Int) : Bool := decide (1 ≤ E ∧ E ≤ P ∧ P ≤ 1048576)
theorem mayB_yes {E P : Int} (h : MayBe E P) : mayB E P = true := decide_eq_true h
theorem mayB_is {E P : Int} (h : ¬ mayB E P = false) : MayBe E P := of_decide_eq_true (p := 1 ≤ E ∧ E ≤ P ∧ P ≤ 1048576) (show mayB E P = true by cases q : mayB E P with | true => rfl | false => exact absurd q h)
theorem mayB_no {E P : Int} (h : ¬ MayBe E P) : mayB E P = false := decide_eq_false h
/-- where the holder of a number stands -/
def findH (hs : List Hd) (id : Int) : Option Nat := hs.findIdx? (fun x => decide (x.id = id))
/-- each holder has a number of its own -/
def UniqH (hs : List Hd) : Prop := ∀ (i j : Nat) (x y : Hd), hs[i]? = some x → hs[j]? = some y → x.id = y.id → i = j
theorem findH_none {hs : List Hd} {id : Int} (h : findH hs id = none) : ∀ x ∈ hs, x.id ≠ id := fun x hx e => by
  have := List.findIdx?_eq_none_iff.mp h x hx
  simp [e] at this
theorem findH_some {hs : List Hd} {id : Int} {j : Nat} (h : findH hs id = some j) : ∃ x, hs[j]? = some x ∧ x.id = id := by
  obtain ⟨hj, hp, _⟩ := List.findIdx?_eq_some_iff_getElem.mp h
  exact ⟨hs[j], List.getElem?_eq_getElem hj, by simpa using hp⟩
theorem findH_of {hs : List Hd} {id : Int} (h : ∀ x ∈ hs, x.id ≠ id) : findH hs id = none :=
  List.findIdx?_eq_none_iff.mpr fun x hx => by simpa using h x hx
theorem findH_at {hs : List Hd} {id : Int} {j : Nat} {x : Hd} (hu : UniqH hs) (hj : hs[j]? = some x) (hx : x.id = id) : findH hs id = some j := by
  cases hf : findH hs id with
  | none => exact absurd hx (findH_none hf x (List.mem_of_getElem? hj))
  | some i =>
    obtain ⟨y, hi, hy⟩ := findH_some hf
    rw [hu i j y x hi hj (by rw [hx, hy])]
/-- a ledger's list: shares that may be, numbers of their own, within what there is -/
structure GoodL (N D : Int) (hs : List Hd) : Prop where
  n0 : 0 ≤ N
  d0 : 0 < D
  each : ∀ h ∈ hs, GoodH h
  none : ∀ h ∈ hs, h.asked = false → h.NE = 0 ∧ h.NP = 0
  uniq : UniqH hs
  fit : fitH N D hs = true
theorem UniqH.nil : UniqH [] := fun i j x y h => by simp at h
theorem UniqH.snoc {hs : List Hd} {n : Hd} (h : UniqH hs) (hn : ∀ x ∈ hs, x.id ≠ n.id) : UniqH (hs ++ [n]) := by
  have at_ : ∀ i x, (hs ++ [n])[i]? = some x → hs[i]? = some x ∨ (i = hs.length ∧ x = n) := fun i x hi => by
    rcases Nat.lt_or_ge i hs.length with q | q
    · rw [List.getElem?_append_left q] at hi; exact .inl hi
    · rw [List.getElem?_append_right q] at hi
      obtain ⟨k, hk⟩ : ∃ k, i - hs.length = k := ⟨_, rfl⟩
      rw [hk] at hi
      cases k with
      | zero => simp at hi; exact .inr ⟨by omega, hi.symm⟩
      | succ k => simp at hi
  intro i j x y hi hj e
  rcases at_ i x hi with h1 | ⟨h1, rfl⟩ <;> rcases at_ j y hj with h2 | ⟨h2, rfl⟩
  · exact h i j x y h1 h2 e
  · exact absurd e (hn x (List.mem_of_getElem? h1))
  · exact absurd e.symm (hn y (List.mem_of_getElem? h2))
  · omega
theorem set_at {hs : List Hd} {i j : Nat} {n x : Hd} (h : (hs.set j n)[i]? = some x) : (i = j ∧ x = n ∧ j < hs.length) ∨ (i ≠ j ∧ hs[i]? = some x) := by
  by_cases e : j = i
  · subst e
    rcases Nat.lt_or_ge j hs.length with q | q
    · rw [List.getElem?_set_self q] at h; cases h; exact .inl ⟨rfl, rfl, q⟩
    · rw [List.getElem?_eq_none (by rw [List.length_set]; exact q)] at h; cases h
  · rw [List.getElem?_set_ne e] at h; exact .inr ⟨fun q => e q.symm, h⟩
theorem UniqH.set {hs : List Hd} {j : Nat} {n x : Hd} (h : UniqH hs) (hj : hs[j]? = some x) (hn : n.id = x.id) : UniqH (hs.set j n) := by
  intro i k a b hi hk e
  rcases set_at hi with ⟨e1, e2, _⟩ | ⟨ni, hi'⟩ <;> rcases set_at hk with ⟨e3, e4, _⟩ | ⟨nk, hk'⟩
  · omega
  · exact e1 ▸ h j k x b hj hk' (by rw [← hn, ← e2]; exact e)
  · exact e3 ▸ h i j a x hi' hj (by rw [← hn, ← e4]; exact e)
  · exact h i k a b hi' hk' e
theorem erase_at {hs : List Hd} {i j : Nat} {x : Hd} (h : (hs.eraseIdx j)[i]? = some x) : hs[if i < j then i else i + 1]? = some x := by
  rw [List.getElem?_eraseIdx] at h
  split <;> simp_all
theorem UniqH.erase {hs : List Hd} (h : UniqH hs) (j : Nat) : UniqH (hs.eraseIdx j) := by
  intro i k a b hi hk e
  have := h _ _ a b (erase_at hi) (erase_at hk) e
  revert this
  split <;> split <;> omega
/-! ### what is told, and who holds what then -/
def joinV (N D : Int) (hs : List Hd) (id E P : Int) : Int × List Hd :=
  if mayB E P = false then (1, hs) else match findH hs id with
    | some _ => (14, hs)
    | none => if fitH N D (hs ++ [newH id E P]) then (0, hs ++ [newH id E P]) else (18, hs)
def askV (N D : Int) (hs : List Hd) (id E P : Int) : Int × List Hd :=
  if mayB E P = false then (1, hs) else match findH hs id with
    | none => (12, hs)
    | some j => match hs[j]? with
      | none => (12, hs)
      | some x => if x.asked then (13, hs) else if fitH N D (hs.set j (askH x E P)) then (0, hs.set j (askH x E P)) else (18, hs)
def settleV (hs : List Hd) (id : Int) : Int × List Hd :=
  match findH hs id with
    | none => (12, hs)
    | some j => match hs[j]? with
      | none => (12, hs)
      | some x => if x.asked then (0, hs.set j (newH id x.NE x.NP)) else (13, hs)
def freeV (hs : List Hd) (id : Int) : Int × List Hd :=
  match findH hs id with
    | none => (12, hs)
    | some j => (0, hs.eraseIdx j)
/-- what is told of a holder -/
def ofH (hs : List Hd) (id : Int) : (Int × Int) × (Int × Int) × Bool :=
  match findH hs id with
    | none => ((0, 0), (0, 0), false)
    | some j => match hs[j]? with
      | none => ((0, 0), (0, 0), false)
      | some x => ((x.E, x.P), (x.NE, x.NP), true)
/-! ### sums -/
def Frac (p : Int × Int) : Prop := 0 ≤ p.1 ∧ 0 < p.2
theorem sumR_frac {ws : List (Int × Int)} (h : ∀ p ∈ ws, Frac p) : Frac (sumR ws) := by
  have : ∀ (l : List (Int × Int)) (a : Int × Int), Frac a → (∀ p ∈ l, Frac p) → Frac (l.foldl (fun r p => (r.1 * p.2 + p.1 * r.2, r.2 * p.2)) a) := by
    intro l
    induction l with
    | nil => intro a ha _; exact ha
    | cons q l ih =>
      intro a ha hl
      have hq := hl q (List.mem_cons_self ..)
      refine ih _ ⟨?_, ?_⟩ (fun p hp => hl p (List.mem_cons_of_mem _ hp))
      · exact Int.add_nonneg (Int.mul_nonneg ha.1 (by have := hq.2; omega)) (Int.mul_nonneg hq.1 (by have := ha.2; omega))
      · exact Int.mul_pos ha.2 hq.2
  exact this ws (0, 1) ⟨by simp, by simp⟩ h
theorem holdsV_frac {h : Hd} (g : GoodH h) : Frac (holdsV h) := by
  obtain ⟨h1, h2, _⟩ := holdsV_may g
  exact ⟨by omega, by omega⟩
theorem sumH_frac {hs : List Hd} (h : ∀ x ∈ hs, GoodH x) : Frac (sumH hs) := sumR_frac fun p hp => by
  obtain ⟨x, hx, rfl⟩ := List.mem_map.mp hp
  exact holdsV_frac (h x hx)
theorem fit_le {N D : Int} {hs : List Hd} : fitH N D hs = true ↔ (sumH hs).1 * D ≤ N * (sumH hs).2 := by unfold fitH; exact decide_eq_true_iff
theorem sumH_append (a b : List Hd) : sumH (a ++ b) = ((sumH a).1 * (sumH b).2 + (sumH b).1 * (sumH a).2, (sumH a).2 * (sumH b).2) := by
  unfold sumH wsL
  rw [List.map_append]
  exact sumR_append _ _
theorem sumH_cons (x : Hd) (l : List Hd) : sumH (x :: l) = ((holdsV x).1 * (sumH l).2 + (sumH l).1 * (holdsV x).2, (holdsV x).2 * (sumH l).2) := sumR_cons _ _
theorem sumH_snoc (l : List Hd) (x : Hd) : sumH (l ++ [x]) = ((sumH l).1 * (holdsV x).2 + (holdsV x).1 * (sumH l).2, (sumH l).2 * (holdsV x).2) := by
  unfold sumH wsL
  rw [List.map_append]
  exact sumR_snoc _ _
/-- all of one, and the rest -/
theorem sum_mid (a b : List Hd) (x : Hd) : sumH (a ++ x :: b) = ((sumH (a ++ b)).1 * (holdsV x).2 + (holdsV x).1 * (sumH (a ++ b)).2, (sumH (a ++ b)).2 * (holdsV x).2) := by
  rw [sumH_append, sumH_cons, sumH_append]
  simp only [Prod.mk.injEq]
  constructor <;> grind
theorem split_at {hs : List Hd} {j : Nat} {x : Hd} (h : hs[j]? = some x) : hs = hs.take j ++ x :: hs.drop (j + 1) := by
  have hj : j < hs.length := by
    rcases Nat.lt_or_ge j hs.length with q | q
    · exact q
    · rw [List.getElem?_eq_none q] at h; cases h
  rw [List.getElem?_eq_getElem hj] at h
  cases h
  rw [← List.drop_eq_getElem_cons hj, List.take_append_drop]
theorem set_split {hs : List Hd} {j : Nat} {x : Hd} (y : Hd) (h : hs[j]? = some x) : hs.set j y = hs.take j ++ y :: hs.drop (j + 1) := by
  have hj : j < hs.length := by
    rcases Nat.lt_or_ge j hs.length with q | q
    · exact q
    · rw [List.getElem?_eq_none q] at h; cases h
  rw [List.set_eq_take_append_cons_drop, if_pos hj]
theorem sum_at {hs : List Hd} {j : Nat} {x : Hd} (h : hs[j]? = some x) : sumH hs = ((sumH (hs.eraseIdx j)).1 * (holdsV x).2 + (holdsV x).1 * (sumH (hs.eraseIdx j)).2, (sumH (hs.eraseIdx j)).2 * (holdsV x).2) := by
  rw [erase_split, ← sum_mid, ← split_at h]
theorem sum_set {hs : List Hd} {j : Nat} {x : Hd} (y : Hd) (h : hs[j]? = some x) : sumH (hs.set j y) = ((sumH (hs.eraseIdx j)).1 * (holdsV y).2 + (holdsV y).1 * (sumH (hs.eraseIdx j)).2, (sumH (hs.eraseIdx j)).2 * (holdsV y).2) := by
  rw [erase_split, ← sum_mid, ← set_split y h]
theorem le_part {c1 c2 p1 p2 q1 q2 N D : Int} (hc : 0 < c2) (hp : 0 < p2) (hd : 0 < D) (hq : q1 * p2 ≤ p1 * q2) (hq2 : 0 < q2) (h : (c1 * p2 + p1 * c2) * D ≤ N * (c2 * p2)) : (c1 * q2 + q1 * c2) * D ≤ N * (c2 * q2) := by
  refine Int.le_of_mul_le_mul_right ?_ hp
  have e1 : (c1 * q2 + q1 * c2) * D * p2 = c1 * q2 * D * p2 + (q1 * p2) * (c2 * D) := by grind
  have e2 : N * (c2 * q2) * p2 = (N * (c2 * p2)) * q2 := by grind
  have e3 : (c1 * p2 + p1 * c2) * D * q2 = c1 * q2 * D * p2 + (p1 * q2) * (c2 * D) := by grind
  have h1 := Int.mul_le_mul_of_nonneg_right hq (show 0 ≤ c2 * D from Int.mul_nonneg (by omega) (by omega))
  have h2 := Int.mul_le_mul_of_nonneg_right h (show 0 ≤ q2 by omega)
  omega
theorem le_less {c1 c2 p1 p2 N D : Int} (hc : 0 < c2) (hp1 : 0 ≤ p1) (hp : 0 < p2) (hd : 0 < D) (h : (c1 * p2 + p1 * c2) * D ≤ N * (c2 * p2)) : c1 * D ≤ N * c2 := by
  refine Int.le_of_mul_le_mul_right ?_ hp
  have e1 : (c1 * p2 + p1 * c2) * D = c1 * D * p2 + p1 * (c2 * D) := by grind
  have e2 : N * (c2 * p2) = N * c2 * p2 := by grind
  have h1 : 0 ≤ p1 * (c2 * D) := Int.mul_nonneg hp1 (Int.mul_nonneg (by omega) (by omega))
  omega
theorem holdsV_new (id E P : Int) : holdsV (newH id E P) = (E, P) := by unfold holdsV newH; rw [if_neg (by simp)]
theorem each_erase {hs : List Hd} (h : ∀ x ∈ hs, GoodH x) (j : Nat) : ∀ x ∈ hs.eraseIdx j, GoodH x := fun x hx => h x (List.mem_of_mem_eraseIdx hx)
theorem mem_set_cases {hs : List Hd} {j : Nat} {y z : Hd} (h : z ∈ hs.set j y) : z ∈ hs ∨ z = y := List.mem_or_eq_of_mem_set h
theorem GoodL.nil {N D : Int} (n0 : 0 ≤ N) (d0 : 0 < D) : GoodL N D [] := ⟨n0, d0, (fun _ h => by cases h), (fun _ h => by cases h), UniqH.nil, fit_le.mpr (by show (0 : Int) * D ≤ N * 1; omega)⟩
theorem GoodL.snoc {N D : Int} {hs : List Hd} (h : GoodL N D hs) {id E P : Int} (hM : MayBe E P) (hn : ∀ x ∈ hs, x.id ≠ id) (hf : fitH N D (hs ++ [newH id E P]) = true) : GoodL N D (hs ++ [newH id E P]) := by
  refine ⟨h.n0, h.d0, fun x hx => ?_, fun x hx ha => ?_, h.uniq.snoc hn, hf⟩
  · rcases List.mem_append.mp hx with q | q
    · exact h.each x q
    · simp at q; subst q; exact ⟨hM, fun e => by cases e⟩
  · rcases List.mem_append.mp hx with q | q
    · exact h.none x q ha
    · simp at q; subst q; exact ⟨rfl, rfl⟩
theorem GoodL.asked {N D : Int} {hs : List Hd} (h : GoodL N D hs) {j : Nat} {x : Hd} (hj : hs[j]? = some x) {E P : Int} (hM : MayBe E P) (hf : fitH N D (hs.set j (askH x E P)) = true) : GoodL N D (hs.set j (askH x E P)) := by
  refine ⟨h.n0, h.d0, fun z hz => ?_, fun z hz ha => ?_, h.uniq.set hj rfl, hf⟩
  · rcases mem_set_cases hz with q | q
    · exact h.each z q
    · subst q; exact ⟨(h.each x (List.mem_of_getElem? hj)).now, fun _ => hM⟩
  · rcases mem_set_cases hz with q | q
    · exact h.none z q ha
    · subst q; cases ha
theorem GoodL.settled {N D : Int} {hs : List Hd} (h : GoodL N D hs) {j : Nat} {x : Hd} (hj : hs[j]? = some x) (ha : x.asked = true) : GoodL N D (hs.set j (newH x.id x.NE x.NP)) := by
  have gx := h.each x (List.mem_of_getElem? hj)
  have hM := gx.next ha
  refine ⟨h.n0, h.d0, fun z hz => ?_, fun z hz ha => ?_, h.uniq.set hj rfl, ?_⟩
  · rcases mem_set_cases hz with q | q
    · exact h.each z q
    · subst q; exact ⟨hM, fun e => by cases e⟩
  · rcases mem_set_cases hz with q | q
    · exact h.none z q ha
    · subst q; exact ⟨rfl, rfl⟩
  · have hf := fit_le.mp h.fit
    rw [sum_at hj] at hf
    refine fit_le.mpr ?_
    rw [sum_set _ hj, holdsV_new]
    obtain ⟨m1, m2, _⟩ := hM
    refine le_part (sumH_frac (each_erase h.each j)).2 (holdsV_frac gx).2 h.d0 ?_ (by omega) hf
    unfold holdsV
    by_cases q : x.E * x.NP < x.NE * x.P
    · rw [if_pos ⟨ha, q⟩]; exact Int.le_refl _
    · rw [if_neg (fun k => q k.2)]; simp only; omega
theorem GoodL.freed {N D : Int} {hs : List Hd} (h : GoodL N D hs) {j : Nat} {x : Hd} (hj : hs[j]? = some x) : GoodL N D (hs.eraseIdx j) := by
  have gx := h.each x (List.mem_of_getElem? hj)
  refine ⟨h.n0, h.d0, each_erase h.each j, fun z hz => h.none z (List.mem_of_mem_eraseIdx hz), h.uniq.erase j, ?_⟩
  have hf := fit_le.mp h.fit
  rw [sum_at hj] at hf
  exact fit_le.mpr (le_less (sumH_frac (each_erase h.each j)).2 (holdsV_frac gx).1 (holdsV_frac gx).2 h.d0 hf)
theorem GoodL.join {N D : Int} {hs : List Hd} (h : GoodL N D hs) (id E P : Int) : GoodL N D (joinV N D hs id E P).2 := by
  unfold joinV
  split
  · exact h
  · rename_i q
    split
    · exact h
    · rename_i hf
      split
      · rename_i ht
        exact h.snoc (mayB_is q) (findH_none hf) ht
      · exact h
theorem GoodL.ask {N D : Int} {hs : List Hd} (h : GoodL N D hs) (id E P : Int) : GoodL N D (askV N D hs id E P).2 := by
  unfold askV
  split
  · exact h
  · rename_i q
    split
    · exact h
    · split
      · exact h
      · rename_i hj
        split
        · exact h
        · split
          · rename_i ht
            exact h.asked hj (mayB_is q) ht
          · exact h
theorem GoodL.settle {N D : Int} {hs : List Hd} (h : GoodL N D hs) (id : Int) : GoodL N D (settleV hs id).2 := by
  unfold settleV
  split
  · exact h
  · rename_i hf
    split
    · exact h
    · rename_i x hj
      split
      · rename_i ha
        obtain ⟨y, hy, e⟩ := findH_some hf
        rw [hj] at hy
        cases hy
        rw [← e]
        exact h.settled hj ha
      · exact h
theorem GoodL.free {N D : Int} {hs : List Hd} (h : GoodL N D hs) (id : Int) : GoodL N D (freeV hs id).2 := by
  unfold freeV
  split
  · exact h
  · rename_i hf
    obtain ⟨y, hy, _⟩ := findH_some hf
    exact h.freed hy
end Go.Proofs.YtbonilmlfelmpaaGreat
namespace Go.Proofs.YtbonilmlfelmpaaGreat
open Go.RowKit

/-- no numbers of 32 bits lie there -/
def NoNum (W : World) (G : Nat → Prop) : Prop := ∀ k, G k → ∀ j x, W.cell? ⟨k, j, none⟩ ≠ some (.int .u32 x)
theorem Row.keepsN {W W' : World} {G : Nat → Prop} {a : Option Addr} {len cap : Nat} {zs : List Int} (h : Row .u32 W a len cap zs) (k : Keeps G W W') (hn : NoNum W G) : Row .u32 W' a len cap zs := by
  refine ⟨h.1, h.2.1, h.2.2.1, h.2.2.2.1, fun i hi => ?_⟩
  obtain ⟨b, off, ha, hc⟩ := h.2.2.2.2 i hi
  exact ⟨b, off, ha, (World.cell?_of_block (w := W) (a := ⟨b, off + i, none⟩) (k.block b (World.block_lt_of_cell? _ _ hc) (fun g => hn b g _ _ hc))).trans hc⟩
/-- the ratios that were told are as they were -/
def NumsKept (w w' : World) : Prop := ∀ b L v n d, Rat w b L v n d → Rat w' b L v n d
theorem NumsKept.of {w w' : World} {G : Nat → Prop} (k : Keeps G w w') (hn : NoNum w G) : NumsKept w w' := fun b L v n d h => by
  obtain ⟨an, ln, cn, zn, ad, ld, cd, zd, rfl, h1, h2, h3, h4, h5⟩ := h
  exact ⟨an, ln, cn, zn, ad, ld, cd, zd, rfl, h1.keepsN k hn, h2, h3.keepsN k hn, h4, h5⟩
/-- how many limbs the sum of a ledger's shares has at most -/
def HL : Nat := 300
/-- a call on the ledger that leaves it so -/
def StaysH (Hp : World → Nat → (Nat → Prop) → (Nat → Prop) → Int → Int → List Hd → Prop) (w : World) (g : Nat) (F A : Nat → Prop) (N D : Int) (hs : List Hd) (w' : World) : Prop := ∃ F', Hp w' g F' A N D hs ∧ Moves F F' w w'
/-- the blocks of G are as they were -/
structure Holds (G : Nat → Prop) (w w' : World) : Prop where
  size : w.heap.size ≤ w'.heap.size
  block : ∀ k, G k → w'.heap[k]? = w.heap[k]?
theorem Holds.blk {G : Nat → Prop} {w w' : World} (h : Holds G w w') {T : TypeId} {b : Nat} {cs : Array Value} (q : Blk w T b cs) (hb : G b) : Blk w' T b cs := (h.block b hb).trans q
def G0 : Nat → Prop := fun _ => False
end Go.Proofs.YtbonilmlfelmpaaGreat
namespace Go.Proofs.YtbonilmlfelmpaaGreat
open Go.RowKit

theorem may_dec (E P : Int) : MayBe E P ∨ ¬ MayBe E P := Classical.em _
theorem uniq_at {hs : List Hd} {id : Int} {j : Nat} {x : Hd} (u : UniqH hs) (hj : hs[j]? = some x) (hx : x.id = id) : ∀ i y, hs[i]? = some y → y.id = id → i = j := fun i y hi hy => u i j y x hi hj (by rw [hx, hy])
/-! ### limbs by values -/
theorem Rat.tight {W : World} {b L p : Nat} {v : Value} {n d : Int} (h : Rat W b L v n d) (hn : n < 4294967296 ^ p) (hd : d < 4294967296 ^ p) : Rat W b p v n d := by
  obtain ⟨an, ln, cn, zn, ad, ld, cd, zd, rfl, h1, h2, h3, h4, _, _, h7, h8⟩ := h
  exact ⟨an, ln, cn, zn, ad, ld, cd, zd, rfl, h1, h2, h3, h4, by have := h2.len_le (by omega) hn; have := h1.len; omega, by have := h4.len_le (by omega) hd; have := h3.len; omega, h7, h8⟩
theorem small_may {p : Int × Int} (h : MayBe p.1 p.2) : Small p := by
  obtain ⟨h1, h2, h3⟩ := h
  unfold Small
  omega
theorem sumH_bd {hs : List Hd} (g : ∀ x ∈ hs, GoodH x) (hl : hs.length ≤ 20) : 0 ≤ (sumH hs).1 ∧ (sumH hs).1 < 4294967296 ^ 14 ∧ 0 < (sumH hs).2 ∧ (sumH hs).2 < 4294967296 ^ 14 := by
  have h := sum_bd (wsL hs) (fun p hp => by
    obtain ⟨x, hx, rfl⟩ := List.mem_map.mp hp
    exact small_may (holdsV_may (g x hx)))
  rw [wsL_len] at h
  obtain ⟨h1, h2, h3, h4⟩ := h
  have k1 : (1048576 : Int) ^ hs.length ≤ 1048576 ^ 20 := ipow_le (by omega) hl
  have k2 : (hs.length : Int) * 1048576 ^ hs.length ≤ 20 * 1048576 ^ 20 := Int.mul_le_mul (by omega) k1 (Int.le_of_lt (ipow_pos (by omega) _)) (by omega)
  have k3 : (20 : Int) * 1048576 ^ 20 < 4294967296 ^ 14 := by decide
  have k4 : (1048576 : Int) ^ 20 < 4294967296 ^ 14 := by decide
  unfold sumH
  omega
/-- what is held, as it is told -/
theorem held_tight {w w' : World} {L : Nat} {e : Ending} {hs : List Hd} (h : GivesLo w L (sumH hs).1 (sumH hs).2 e w') (g : ∀ x ∈ hs, GoodH x) (hl : hs.length ≤ 20) :
    ∃ v n d, e = .returned v ∧ Rat w' 0 14 v n d ∧ Lo n d ∧ n * (sumH hs).2 = (sumH hs).1 * d ∧ Below w.heap.size w w' := by
  obtain ⟨v, n, d, rfl, hr, hlo, he, hb⟩ := h
  obtain ⟨b1, b2, b3, b4⟩ := sumH_bd g hl
  have k := lo_le hlo b1 b3 he
  exact ⟨v, n, d, rfl, hr.tight (by omega) (by omega), hlo, he, hb⟩
end Go.Proofs.YtbonilmlfelmpaaGreat
namespace Go.Proofs.YtbonilmlfelmpaaGreat
open Go.RowKit

/-- a weight by numbers, that may not always be -/
def mkM (p : Int × Int) : Int × Int := (bits .and .i64 p.1 31 - 1, bits .and .i64 p.2 31)
theorem mkM_bd (p : Int × Int) : -1 ≤ (mkM p).1 ∧ (mkM p).1 ≤ 30 ∧ 0 ≤ (mkM p).2 ∧ (mkM p).2 ≤ 31 := by
  have h1 := mask_le p.1 31 (by omega) (by omega)
  have h2 := mask_le p.2 31 (by omega) (by omega)
  unfold mkM
  omega
/-! ### awake -/
section
variable {Hp : World → Nat → (Nat → Prop) → (Nat → Prop) → Int → Int → List Hd → Prop}
def aw1 : List Hd := [newH 1 1 2]
def aw2 : List Hd := [⟨1, 1, 2, 3, 4, true⟩]
theorem aw_a : joinV 1 1 [] 1 1 2 = (0, aw1) := by rfl
theorem aw_b : joinV 1 1 aw1 2 2 3 = (18, aw1) := by rfl
theorem aw_c : askV 1 1 aw1 1 3 4 = (0, aw2) := by rfl
theorem aw_d : joinV 1 1 aw2 2 1 3 = (18, aw2) := by rfl
end
end Go.Proofs.YtbonilmlfelmpaaGreat

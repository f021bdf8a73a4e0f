/-
  What is asked of a ledger, as plain data: who holds what behind each call. No function of the program in sight.
  What is asked of package hold: its contracts, for whatever lies in memory; what the laws carry along. (Written by wip/tools/gen_ha1.py.)
  The document's own ledger once more, in the words of what is asked; the laws' own numbers.
  The laws' own one, made, awake: contracts.
-/
import Derived.Test.YtphlkpkbdnddlaaHoA
import Derived.Test.YtphlkpkbdnddlaaHoB
import Derived.Test.YtphlkpkbdnddlaaHoC
import Derived.Test.YtphlkpkbdnddlaaRpA
import Derived.Test.YtphlkpkbdnddlaaRq6
import Derived.Test.YtphlkpkbdnddlaaWinA
import Derived.StillTailTactics
namespace Go.Proofs.Ytphlkpkbdnddlaa
open Go.RowKit

def mayB (E P : Int) : Bool := decide (1 ≤ E ∧ E ≤ P ∧ P ≤ 1048576)
theorem mayB_yes {E P : Int} (h : MayBe E P) : mayB E P = true := decide_eq_true h
theorem mayB_is {E P : Int} (h : ¬ mayB E P = false) : MayBe E P := of_decide_eq_true (p := 1 ≤ E ∧ E ≤ P ∧ P ≤ 1048576) (show mayB E P = true by cases q : mayB E P with | true => rfl | false => exact absurd q h)
theorem mayB_no {E P : Int} (h : ¬ MayBe E P) : mayB E P = false := decide_eq_false h
/-- where the holder of a number stands -/
def findH (hs : List Hd) (id : Int) : Option Nat := hs.findIdx? (fun x => decide (x.id = id))
/-- each holder has a number of its own -/
def UniqH (hs : List Hd) : Prop := ∀ (i j : Nat) (x y : Hd), hs[i]? = some x → hs[j]? = some y → x.id = y.id → i = j
theorem findH_none {hs : List Hd} {id : Int} (h : findH hs id = none) : ∀ x ∈ hs, x.id ≠ id := fun x hx e => by
  have := List.findIdx?_eq_none_iff.mp h x hx
  simp [e] at this
theorem findH_some {hs : List Hd} {id : Int} {j : Nat} (h : findH hs id = some j) : ∃ x, hs[j]? = some x ∧ x.id = id := by
  obtain ⟨hj, hp, _⟩ := List.findIdx?_eq_some_iff_getElem.mp h
  exact ⟨hs[j], List.getElem?_eq_getElem hj, by simpa using hp⟩
theorem findH_of {hs : List Hd} {id : Int} (h : ∀ x ∈ hs, x.id ≠ id) : findH hs id = none :=
  List.findIdx?_eq_none_iff.mpr fun x hx => by simpa using h x hx
theorem findH_at {hs : List Hd} {id : Int} {j : Nat} {x : Hd} (hu : UniqH hs) (hj : hs[j]? = some x) (hx : x.id = id) : findH hs id = some j := by
  cases hf : findH hs id with
  | none => exact absurd hx (findH_none hf x (List.mem_of_getElem? hj))
  | some i =>
    obtain ⟨y, hi, hy⟩ := findH_some hf
    rw [hu i j y x hi hj (by rw [hx, hy])]
/-- a ledger's list: shares that may be, numbers of their own, within what there is -/
structure GoodL (N D : Int) (hs : List Hd) : Prop where
  n0 : 0 ≤ N
  d0 : 0 < D
  each : ∀ h ∈ hs, GoodH h
  none : ∀ h ∈ hs, h.asked = false → h.NE = 0 ∧ h.NP = 0
  uniq : UniqH hs
  fit : fitH N D hs = true
theorem UniqH.nil : UniqH [] := fun i j x y h => by simp at h
theorem UniqH.snoc {hs : List Hd} {n : Hd} (h : UniqH hs) (hn : ∀ x ∈ hs, x.id ≠ n.id) : UniqH (hs ++ [n]) := by
  have at_ : ∀ i x, (hs ++ [n])[i]? = some x → hs[i]? = some x ∨ (i = hs.length ∧ x = n) := fun i x hi => by
    rcases Nat.lt_or_ge i hs.length with q | q
    · rw [List.getElem?_append_left q] at hi; exact .inl hi
    · rw [List.getElem?_append_right q] at hi
      obtain ⟨k, hk⟩ : ∃ k, i - hs.length = k := ⟨_, rfl⟩
      rw [hk] at hi
      cases k with
      | zero => simp at hi; exact .inr ⟨by omega, hi.symm⟩
      | succ k => simp at hi
  intro i j x y hi hj e
  rcases at_ i x hi with h1 | ⟨h1, rfl⟩ <;> rcases at_ j y hj with h2 | ⟨h2, rfl⟩
  · exact h i j x y h1 h2 e
  · exact absurd e (hn x (List.mem_of_getElem? h1))
  · exact absurd e.symm (hn y (List.mem_of_getElem? h2))
  · omega
theorem set_at {hs : List Hd} {i j : Nat} {n x : Hd} (h : (hs.set j n)[i]? = some x) : (i = j ∧ x = n ∧ j < hs.length) ∨ (i ≠ j ∧ hs[i]? = some x) := by
  by_cases e : j = i
  · subst e
    rcases Nat.lt_or_ge j hs.length with q | q
    · rw [List.getElem?_set_self q] at h; cases h; exact .inl ⟨rfl, rfl, q⟩
    · rw [List.getElem?_eq_none (by rw [List.length_set]; exact q)] at h; cases h
  · rw [List.getElem?_set_ne e] at h; exact .inr ⟨fun q => e q.symm, h⟩
theorem UniqH.set {hs : List Hd} {j : Nat} {n x : Hd} (h : UniqH hs) (hj : hs[j]? = some x) (hn : n.id = x.id) : UniqH (hs.set j n) := by
  intro i k a b hi hk e
  rcases set_at hi with ⟨e1, e2, _⟩ | ⟨ni, hi'⟩ <;> rcases set_at hk with ⟨e3, e4, _⟩ | ⟨nk, hk'⟩
  · omega
  · exact e1 ▸ h j k x b hj hk' (by rw [← hn, ← e2]; exact e)
  · exact e3 ▸ h i j a x hi' hj (by rw [← hn, ← e4]; exact e)
  · exact h i k a b hi' hk' e
theorem erase_at {hs : List Hd} {i j : Nat} {x : Hd} (h : (hs.eraseIdx j)[i]? = some x) : hs[if i < j then i else i + 1]? = some x := by
  rw [List.getElem?_eraseIdx] at h
  split <;> simp_all
theorem UniqH.erase {hs : List Hd} (h : UniqH hs) (j : Nat) : UniqH (hs.eraseIdx j) := by
  intro i k a b hi hk e
  have := h _ _ a b (erase_at hi) (erase_at hk) e
  revert this
  split <;> split <;> omega
/-! ### what is told, and who holds what then -/
def joinV (N D : Int) (hs : List Hd) (id E P : Int) : Int × List Hd :=
  if mayB E P = false then (1, hs) else match findH hs id with
    | some _ => (14, hs)
    | none => if fitH N D (hs ++ [newH id E P]) then (0, hs ++ [newH id E P]) else (18, hs)
def askV (N D : Int) (hs : List Hd) (id E P : Int) : Int × List Hd :=
  if mayB E P = false then (1, hs) else match findH hs id with
    | none => (12, hs)
    | some j => match hs[j]? with
      | none => (12, hs)
      | some x => if x.asked then (13, hs) else if fitH N D (hs.set j (askH x E P)) then (0, hs.set j (askH x E P)) else (18, hs)
def settleV (hs : List Hd) (id : Int) : Int × List Hd :=
  match findH hs id with
    | none => (12, hs)
    | some j => match hs[j]? with
      | none => (12, hs)
      | some x => if x.asked then (0, hs.set j (newH id x.NE x.NP)) else (13, hs)
def freeV (hs : List Hd) (id : Int) : Int × List Hd :=
  match findH hs id with
    | none => (12, hs)
    | some j => (0, hs.eraseIdx j)
/-- what is told of a holder -/
def ofH (hs : List Hd) (id : Int) : (Int × Int) × (Int × Int) × Bool :=
  match findH hs id with
    | none => ((0, 0), (0, 0), false)
    | some j => match hs[j]? with
      | none => ((0, 0), (0, 0), false)
      | some x => ((x.E, x.P), (x.NE, x.NP), true)
/-! ### sums -/
def Frac (p : Int × Int) : Prop := 0 ≤ p.1 ∧ 0 < p.2
theorem sumR_frac {ws : List (Int × Int)} (h : ∀ p ∈ ws, Frac p) : Frac (sumR ws) := by
  have : ∀ (l : List (Int × Int)) (a : Int × Int), Frac a → (∀ p ∈ l, Frac p) → Frac (l.foldl (fun r p => (r.1 * p.2 + p.1 * r.2, r.2 * p.2)) a) := by
    intro l
    induction l with
    | nil => intro a ha _; exact ha
    | cons q l ih =>
      intro a ha hl
      have hq := hl q (List.mem_cons_self ..)
      refine ih _ ⟨?_, ?_⟩ (fun p hp => hl p (List.mem_cons_of_mem _ hp))
      · exact Int.add_nonneg (Int.mul_nonneg ha.1 (by have := hq.2; omega)) (Int.mul_nonneg hq.1 (by have := ha.2; omega))
      · exact Int.mul_pos ha.2 hq.2
  exact this ws (0, 1) ⟨by simp, by simp⟩ h
theorem holdsV_frac {h : Hd} (g : GoodH h) : Frac (holdsV h) := by
  obtain ⟨h1, h2, _⟩ := holdsV_may g
  exact ⟨by omega, by omega⟩
theorem sumH_frac {hs : List Hd} (h : ∀ x ∈ hs, GoodH x) : Frac (sumH hs) := sumR_frac fun p hp => by
  obtain ⟨x, hx, rfl⟩ := List.mem_map.mp hp
  exact holdsV_frac (h x hx)
theorem fit_le {N D : Int} {hs : List Hd} : fitH N D hs = true ↔ (sumH hs).1 * D ≤ N * (sumH hs).2 := by unfold fitH; exact decide_eq_true_iff
theorem sumH_append (a b : List Hd) : sumH (a ++ b) = ((sumH a).1 * (sumH b).2 + (sumH b).1 * (sumH a).2, (sumH a).2 * (sumH b).2) := by
  unfold sumH wsL
  rw [List.map_append]
  exact sumR_append _ _
theorem sumH_cons (x : Hd) (l : List Hd) : sumH (x :: l) = ((holdsV x).1 * (sumH l).2 + (sumH l).1 * (holdsV x).2, (holdsV x).2 * (sumH l).2) := sumR_cons _ _
theorem sumH_snoc (l : List Hd) (x : Hd) : sumH (l ++ [x]) = ((sumH l).1 * (holdsV x).2 + (holdsV x).1 * (sumH l).2, (sumH l).2 * (holdsV x).2) := by
  unfold sumH wsL
  rw [List.map_append]
  exact sumR_snoc _ _
/-- all of one, and the rest -/
theorem sum_mid (a b : List Hd) (x : Hd) : sumH (a ++ x :: b) = ((sumH (a ++ b)).1 * (holdsV x).2 + (holdsV x).1 * (sumH (a ++ b)).2, (sumH (a ++ b)).2 * (holdsV x).2) := by
  rw [sumH_append, sumH_cons, sumH_append]
  simp only [Prod.mk.injEq]
  constructor <;> grind
theorem split_at {hs : List Hd} {j : Nat} {x : Hd} (h : hs[j]? = some x) : hs = hs.take j ++ x :: hs.drop (j + 1) := by
  have hj : j < hs.length := by
    rcases Nat.lt_or_ge j hs.length with q | q
    · exact q
    · rw [List.getElem?_eq_none q] at h; cases h
  rw [List.getElem?_eq_getElem hj] at h
  cases h
  rw [← List.drop_eq_getElem_cons hj, List.take_append_drop]
theorem set_split {hs : List Hd} {j : Nat} {x : Hd} (y : Hd) (h : hs[j]? = some x) : hs.set j y = hs.take j ++ y :: hs.drop (j + 1) := by
  have hj : j < hs.length := by
    rcases Nat.lt_or_ge j hs.length with q | q
    · exact q
    · rw [List.getElem?_eq_none q] at h; cases h
  rw [List.set_eq_take_append_cons_drop, if_pos hj]
theorem sum_at {hs : List Hd} {j : Nat} {x : Hd} (h : hs[j]? = some x) : sumH hs = ((sumH (hs.eraseIdx j)).1 * (holdsV x).2 + (holdsV x).1 * (sumH (hs.eraseIdx j)).2, (sumH (hs.eraseIdx j)).2 * (holdsV x).2) := by
  rw [erase_split, ← sum_mid, ← split_at h]
theorem sum_set {hs : List Hd} {j : Nat} {x : Hd} (y : Hd) (h : hs[j]? = some x) : sumH (hs.set j y) = ((sumH (hs.eraseIdx j)).1 * (holdsV y).2 + (holdsV y).1 * (sumH (hs.eraseIdx j)).2, (sumH (hs.eraseIdx j)).2 * (holdsV y).2) := by
  rw [erase_split, ← sum_mid, ← set_split y h]
theorem le_part {c1 c2 p1 p2 q1 q2 N D : Int} (hc : 0 < c2) (hp : 0 < p2) (hd : 0 < D) (hq : q1 * p2 ≤ p1 * q2) (hq2 : 0 < q2) (h : (c1 * p2 + p1 * c2) * D ≤ N * (c2 * p2)) : (c1 * q2 + q1 * c2) * D ≤ N * (c2 * q2) := by
  refine Int.le_of_mul_le_mul_right ?_ hp
  have e1 : (c1 * q2 + q1 * c2) * D * p2 = c1 * q2 * D * p2 + (q1 * p2) * (c2 * D) := by grind
  have e2 : N * (c2 * q2) * p2 = (N * (c2 * p2)) * q2 := by grind
  have e3 : (c1 * p2 + p1 * c2) * D * q2 = c1 * q2 * D * p2 + (p1 * q2) * (c2 * D) := by grind
  have h1 := Int.mul_le_mul_of_nonneg_right hq (show 0 ≤ c2 * D from Int.mul_nonneg (by omega) (by omega))
  have h2 := Int.mul_le_mul_of_nonneg_right h (show 0 ≤ q2 by omega)
  omega
theorem le_less {c1 c2 p1 p2 N D : Int} (hc : 0 < c2) (hp1 : 0 ≤ p1) (hp : 0 < p2) (hd : 0 < D) (h : (c1 * p2 + p1 * c2) * D ≤ N * (c2 * p2)) : c1 * D ≤ N * c2 := by
  refine Int.le_of_mul_le_mul_right ?_ hp
  have e1 : (c1 * p2 + p1 * c2) * D = c1 * D * p2 + p1 * (c2 * D) := by grind
  have e2 : N * (c2 * p2) = N * c2 * p2 := by grind
  have h1 : 0 ≤ p1 * (c2 * D) := Int.mul_nonneg hp1 (Int.mul_nonneg (by omega) (by omega))
  omega
theorem holdsV_new (id E P : Int) : holdsV (newH id E P) = (E, P) := by unfold holdsV newH; rw [if_neg (by simp)]
theorem each_erase {hs : List Hd} (h : ∀ x ∈ hs, GoodH x) (j : Nat) : ∀ x ∈ hs.eraseIdx j, GoodH x := fun x hx => h x (List.mem_of_mem_eraseIdx hx)
theorem mem_set_cases {hs : List Hd} {j : Nat} {y z : Hd} (h : z ∈ hs.set j y) : z ∈ hs ∨ z = y := List.mem_or_eq_of_mem_set h
theorem GoodL.nil {N D : Int} (n0 : 0 ≤ N) (d0 : 0 < D) : GoodL N D [] := ⟨n0, d0, (fun _ h => by cases h), (fun _ h => by cases h), UniqH.nil, fit_le.mpr (by show (0 : Int) * D ≤ N * 1; omega)⟩
theorem GoodL.snoc {N D : Int} {hs : List Hd} (h : GoodL N D hs) {id E P : Int} (hM : MayBe E P) (hn : ∀ x ∈ hs, x.id ≠ id) (hf : fitH N D (hs ++ [newH id E P]) = true) : GoodL N D (hs ++ [newH id E P]) := by
  refine ⟨h.n0, h.d0, fun x hx => ?_, fun x hx ha => ?_, h.uniq.snoc hn, hf⟩
  · rcases List.mem_append.mp hx with q | q
    · exact h.each x q
    · simp at q; subst q; exact ⟨hM, fun e => by cases e⟩
  · rcases List.mem_append.mp hx with q | q
    · exact h.none x q ha
    · simp at q; subst q; exact ⟨rfl, rfl⟩
theorem GoodL.asked {N D : Int} {hs : List Hd} (h : GoodL N D hs) {j : Nat} {x : Hd} (hj : hs[j]? = some x) {E P : Int} (hM : MayBe E P) (hf : fitH N D (hs.set j (askH x E P)) = true) : GoodL N D (hs.set j (askH x E P)) := by
  refine ⟨h.n0, h.d0, fun z hz => ?_, fun z hz ha => ?_, h.uniq.set hj rfl, hf⟩
  · rcases mem_set_cases hz with q | q
    · exact h.each z q
    · subst q; exact ⟨(h.each x (List.mem_of_getElem? hj)).now, fun _ => hM⟩
  · rcases mem_set_cases hz with q | q
    · exact h.none z q ha
    · subst q; cases ha
theorem GoodL.settled {N D : Int} {hs : List Hd} (h : GoodL N D hs) {j : Nat} {x : Hd} (hj : hs[j]? = some x) (ha : x.asked = true) : GoodL N D (hs.set j (newH x.id x.NE x.NP)) := by
  have gx := h.each x (List.mem_of_getElem? hj)
  have hM := gx.next ha
  refine ⟨h.n0, h.d0, fun z hz => ?_, fun z hz ha => ?_, h.uniq.set hj rfl, ?_⟩
  · rcases mem_set_cases hz with q | q
    · exact h.each z q
    · subst q; exact ⟨hM, fun e => by cases e⟩
  · rcases mem_set_cases hz with q | q
    · exact h.none z q ha
    · subst q; exact ⟨rfl, rfl⟩
  · have hf := fit_le.mp h.fit
    rw [sum_at hj] at hf
    refine fit_le.mpr ?_
    rw [sum_set _ hj, holdsV_new]
    obtain ⟨m1, m2, _⟩ := hM
    refine le_part (sumH_frac (each_erase h.each j)).2 (holdsV_frac gx).2 h.d0 ?_ (by omega) hf
    unfold holdsV
    by_cases q : x.E * x.NP < x.NE * x.P
    · rw [if_pos ⟨ha, q⟩]; exact Int.le_refl _
    · rw [if_neg (fun k => q k.2)]; simp only; omega
theorem GoodL.freed {N D : Int} {hs : List Hd} (h : GoodL N D hs) {j : Nat} {x : Hd} (hj : hs[j]? = some x) : GoodL N D (hs.eraseIdx j) := by
  have gx := h.each x (List.mem_of_getElem? hj)
  refine ⟨h.n0, h.d0, each_erase h.each j, fun z hz => h.none z (List.mem_of_mem_eraseIdx hz), h.uniq.erase j, ?_⟩
  have hf := fit_le.mp h.fit
  rw [sum_at hj] at hf
  exact fit_le.mpr (le_less (sumH_frac (each_erase h.each j)).2 (holdsV_frac gx).1 (holdsV_frac gx).2 h.d0 hf)
theorem GoodL.join {N D : Int} {hs : List Hd} (h : GoodL N D hs) (id E P : Int) : GoodL N D (joinV N D hs id E P).2 := by
  unfold joinV
  split
  · exact h
  · rename_i q
    split
    · exact h
    · rename_i hf
      split
      · rename_i ht
        exact h.snoc (mayB_is q) (findH_none hf) ht
      · exact h
theorem GoodL.ask {N D : Int} {hs : List Hd} (h : GoodL N D hs) (id E P : Int) : GoodL N D (askV N D hs id E P).2 := by
  unfold askV
  split
  · exact h
  · rename_i q
    split
    · exact h
    · split
      · exact h
      · rename_i hj
        split
        · exact h
        · split
          · rename_i ht
            exact h.asked hj (mayB_is q) ht
          · exact h
theorem GoodL.settle {N D : Int} {hs : List Hd} (h : GoodL N D hs) (id : Int) : GoodL N D (settleV hs id).2 := by
  unfold settleV
  split
  · exact h
  · rename_i hf
    split
    · exact h
    · rename_i x hj
      split
      · rename_i ha
        obtain ⟨y, hy, e⟩ := findH_some hf
        rw [hj] at hy
        cases hy
        rw [← e]
        exact h.settled hj ha
      · exact h
theorem GoodL.free {N D : Int} {hs : List Hd} (h : GoodL N D hs) (id : Int) : GoodL N D (freeV hs id).2 := by
  unfold freeV
  split
  · exact h
  · rename_i hf
    obtain ⟨y, hy, _⟩ := findH_some hf
    exact h.freed hy
end Go.Proofs.Ytphlkpkbdnddlaa
namespace Go.Proofs.Ytphlkpkbdnddlaa
open Go.RowKit

/-- no numbers of 32 bits lie there -/
def NoNum (W : World) (G : Nat → Prop) : Prop := ∀ k, G k → ∀ j x, W.cell? ⟨k, j, none⟩ ≠ some (.int .u32 x)
theorem Row.keepsN {W W' : World} {G : Nat → Prop} {a : Option Addr} {len cap : Nat} {zs : List Int} (h : Row .u32 W a len cap zs) (k : Keeps G W W') (hn : NoNum W G) : Row .u32 W' a len cap zs := by
  refine ⟨h.1, h.2.1, h.2.2.1, h.2.2.2.1, fun i hi => ?_⟩
  obtain ⟨b, off, ha, hc⟩ := h.2.2.2.2 i hi
  exact ⟨b, off, ha, (World.cell?_of_block (w := W) (a := ⟨b, off + i, none⟩) (k.block b (World.block_lt_of_cell? _ _ hc) (fun g => hn b g _ _ hc))).trans hc⟩
/-- the ratios that were told are as they were -/
def NumsKept (w w' : World) : Prop := ∀ b L v n d, Rat w b L v n d → Rat w' b L v n d
theorem NumsKept.of {w w' : World} {G : Nat → Prop} (k : Keeps G w w') (hn : NoNum w G) : NumsKept w w' := fun b L v n d h => by
  obtain ⟨an, ln, cn, zn, ad, ld, cd, zd, rfl, h1, h2, h3, h4, h5⟩ := h
  exact ⟨an, ln, cn, zn, ad, ld, cd, zd, rfl, h1.keepsN k hn, h2, h3.keepsN k hn, h4, h5⟩
/-- how many limbs the sum of a ledger's shares has at most -/
def HL : Nat := 300
/-- a call on the ledger that leaves it so -/
def StaysH (Hp : World → Nat → (Nat → Prop) → (Nat → Prop) → Int → Int → List Hd → Prop) (w : World) (g : Nat) (F A : Nat → Prop) (N D : Int) (hs : List Hd) (w' : World) : Prop := ∃ F', Hp w' g F' A N D hs ∧ Moves F F' w w'
/-- package hold is as P12.1 to P12.3 say. F: what is the ledger's own; A: what it reads of what it was given -/
structure HoldOk (Hp : World → Nat → (Nat → Prop) → (Nat → Prop) → Int → Int → List Hd → Prop) : Prop where
  lies : ∀ {w g F A N D hs}, Hp w g F A N D hs → Lies F w ∧ Lies A w
  keeps : ∀ {w w' g F A G N D hs}, Hp w g F A N D hs → Keeps G w w' → Apart F G → Apart A G → Hp w' g F A N D hs
  good : ∀ {w g F A N D hs}, Hp w g F A N D hs → GoodL N D hs
  nonum : ∀ {w g F A N D hs}, Hp w g F A N D hs → NoNum w F
  new_yes : ∀ (v : Value) (N D : Int) (L b : Nat) w, Rat w b L v N D → L ≤ 3 → 0 < D → Calls Try.prog 11 #[v] w fun z w' => ∃ g F A, z = .returned (.pointer (some ⟨g, 0, none⟩)) ∧ Hp w' g F A N D [] ∧ From F w.heap.size ∧ Below w.heap.size w w'
  new_no : ∀ (a1 : Option Addr) (l1 c1 : Nat) (z1 : List Int) (a2 : Option Addr) (l2 c2 : Nat) (z2 : List Int) w, Row .u32 w a1 l1 c1 z1 → Row .u32 w a2 l2 c2 z2 → ¬ (Top z1 ∧ Top z2 ∧ z2 ≠ []) → Calls Try.prog 11 #[.agg #[.slice a1 l1 c1, .slice a2 l2 c2]] w fun z w' => z = .returned (.pointer none) ∧ Below w.heap.size w w'
  join : ∀ g F A N D hs (id E P : Int) w, Hp w g F A N D hs → hs.length ≤ 19 → Calls Try.prog 23 #[.pointer (some ⟨g, 0, none⟩), .int .i64 id, .agg #[.int .i64 E, .int .i64 P]] w fun z w' => z = .returned (.int .i64 (joinV N D hs id E P).1) ∧ StaysH Hp w g F A N D (joinV N D hs id E P).2 w'
  ask : ∀ g F A N D hs (id E P : Int) w, Hp w g F A N D hs → hs.length ≤ 19 → Calls Try.prog 13 #[.pointer (some ⟨g, 0, none⟩), .int .i64 id, .agg #[.int .i64 E, .int .i64 P]] w fun z w' => z = .returned (.int .i64 (askV N D hs id E P).1) ∧ StaysH Hp w g F A N D (askV N D hs id E P).2 w'
  settle : ∀ g F A N D hs (id : Int) w, Hp w g F A N D hs → hs.length ≤ 19 → Calls Try.prog 15 #[.pointer (some ⟨g, 0, none⟩), .int .i64 id] w fun z w' => z = .returned (.int .i64 (settleV hs id).1) ∧ StaysH Hp w g F A N D (settleV hs id).2 w'
  free : ∀ g F A N D hs (id : Int) w, Hp w g F A N D hs → hs.length ≤ 19 → Calls Try.prog 17 #[.pointer (some ⟨g, 0, none⟩), .int .i64 id] w fun z w' => z = .returned (.int .i64 (freeV hs id).1) ∧ StaysH Hp w g F A N D (freeV hs id).2 w'
  held : ∀ g F A N D hs w, Hp w g F A N D hs → hs.length ≤ 20 → Calls Try.prog 26 #[.pointer (some ⟨g, 0, none⟩)] w (GivesLo w HL (sumH hs).1 (sumH hs).2)
  left : ∀ g F A N D hs w, Hp w g F A N D hs → hs.length ≤ 20 → Calls Try.prog 29 #[.pointer (some ⟨g, 0, none⟩)] w (GivesLo w HL (N * (sumH hs).2 - (sumH hs).1 * D) (D * (sumH hs).2))
  of_ : ∀ g F A N D hs (id : Int) w, Hp w g F A N D hs → hs.length ≤ 20 → Calls Try.prog 21 #[.pointer (some ⟨g, 0, none⟩), .int .i64 id] w (fun z w' => z = .returned (.tuple #[.agg #[.int .i64 (ofH hs id).1.1, .int .i64 (ofH hs id).1.2], .agg #[.int .i64 (ofH hs id).2.1.1, .int .i64 (ofH hs id).2.1.2], .bool (ofH hs id).2.2]) ∧ Below w.heap.size w w')
  fits : ∀ g F A N D hs (E P E2 P2 : Int) w, Hp w g F A N D hs → hs.length ≤ 20 → Calls Try.prog 19 #[.pointer (some ⟨g, 0, none⟩), .agg #[.int .i64 E, .int .i64 P], .agg #[.int .i64 E2, .int .i64 P2]] w (fun z w' => z = .returned (.bool (fitsV N D hs E P E2 P2)) ∧ Below w.heap.size w w')
  len : ∀ g F A N D hs w, Hp w g F A N D hs → hs.length ≤ 20 → Calls Try.prog 30 #[.pointer (some ⟨g, 0, none⟩)] w (fun z w' => z = .returned (.int .i64 (hs.length : Int)) ∧ Below w.heap.size w w')
  join_nil : ∀ (id E P : Int) w, Calls Try.prog 23 #[.pointer none, .int .i64 id, .agg #[.int .i64 E, .int .i64 P]] w fun z w' => z = .returned (.int .i64 1) ∧ Below w.heap.size w w'
  ask_nil : ∀ (id E P : Int) w, Calls Try.prog 13 #[.pointer none, .int .i64 id, .agg #[.int .i64 E, .int .i64 P]] w fun z w' => z = .returned (.int .i64 1) ∧ Below w.heap.size w w'
  settle_nil : ∀ (id : Int) w, Calls Try.prog 15 #[.pointer none, .int .i64 id] w fun z w' => z = .returned (.int .i64 1) ∧ Below w.heap.size w w'
  free_nil : ∀ (id : Int) w, Calls Try.prog 17 #[.pointer none, .int .i64 id] w fun z w' => z = .returned (.int .i64 1) ∧ Below w.heap.size w w'
  of__nil : ∀ (id : Int) w, Calls Try.prog 21 #[.pointer none, .int .i64 id] w fun z w' => z = .returned (.tuple #[.agg #[.int .i64 0, .int .i64 0], .agg #[.int .i64 0, .int .i64 0], .bool false]) ∧ Below w.heap.size w w'
  fits_nil : ∀ (E P E2 P2 : Int) w, Calls Try.prog 19 #[.pointer none, .agg #[.int .i64 E, .int .i64 P], .agg #[.int .i64 E2, .int .i64 P2]] w fun z w' => z = .returned (.bool false) ∧ Below w.heap.size w w'
  len_nil : ∀ w, Calls Try.prog 30 #[.pointer none] w fun z w' => z = .returned (.int .i64 0) ∧ Below w.heap.size w w'
  held_nil : ∀ w, Calls Try.prog 26 #[.pointer none] w (GivesLo w 2 0 1)
  left_nil : ∀ w, Calls Try.prog 29 #[.pointer none] w (GivesLo w 2 0 1)

section
variable {Hp : World → Nat → (Nat → Prop) → (Nat → Prop) → Int → Int → List Hd → Prop}
/-- the blocks of G are as they were -/
structure Holds (G : Nat → Prop) (w w' : World) : Prop where
  size : w.heap.size ≤ w'.heap.size
  block : ∀ k, G k → w'.heap[k]? = w.heap[k]?
theorem Holds.blk {G : Nat → Prop} {w w' : World} (h : Holds G w w') {T : TypeId} {b : Nat} {cs : Array Value} (q : Blk w T b cs) (hb : G b) : Blk w' T b cs := (h.block b hb).trans q
def G0 : Nat → Prop := fun _ => False
/-- what is carried through the laws: a ledger of the law's own, made behind the world w, apart of the law's other blocks G -/
def Mine12 (Hp : World → Nat → (Nat → Prop) → (Nat → Prop) → Int → Int → List Hd → Prop) (w : World) (G : Nat → Prop) (g : Nat) (N D : Int) (hs : List Hd) (wr : World) : Prop :=
  ∃ F A, Hp wr g F A N D hs ∧ From F w.heap.size ∧ Below w.heap.size w wr ∧ Apart F G ∧ Apart A G ∧ Lies G wr ∧ From G w.heap.size
theorem Mine12.below {w wr : World} {G : Nat → Prop} {g : Nat} {N D : Int} {hs : List Hd} (h : Mine12 Hp w G g N D hs wr) : Below w.heap.size w wr := by obtain ⟨_, _, _, _, h, _⟩ := h; exact h
theorem Mine12.lies {w wr : World} {G : Nat → Prop} {g : Nat} {N D : Int} {hs : List Hd} (h : Mine12 Hp w G g N D hs wr) : Lies G wr := by obtain ⟨_, _, _, _, _, _, _, h, _⟩ := h; exact h
theorem Mine12.good (ok : HoldOk Hp) {w wr : World} {G : Nat → Prop} {g : Nat} {N D : Int} {hs : List Hd} (h : Mine12 Hp w G g N D hs wr) : GoodL N D hs := by
  obtain ⟨_, _, h1, _⟩ := h
  exact ok.good h1
theorem Mine12.stays (ok : HoldOk Hp) {w wr w' : World} {G : Nat → Prop} {g : Nat} {N D : Int} {hs hs' : List Hd} {F A : Nat → Prop} (hp : Hp wr g F A N D hs) (hF : From F w.heap.size) (hb : Below w.heap.size w wr) (ap : Apart F G) (aa : Apart A G) (lg : Lies G wr) (fg : From G w.heap.size) (h : StaysH Hp wr g F A N D hs' w') : Mine12 Hp w G g N D hs' w' ∧ Holds G wr w' ∧ NumsKept wr w' := by
  obtain ⟨F', h1, h2⟩ := h
  exact ⟨⟨F', A, h1, hF.moves h2 hb.size, h2.keeps.below hb hF hb.size, ap.moves h2 lg, aa, lg.next h2.keeps.size, fg⟩, ⟨h2.keeps.size, fun k q => h2.keeps.block k (lg k q) (fun f => ap k f q)⟩, NumsKept.of h2.keeps (ok.nonum hp)⟩
/-- the law's own writing -/
theorem Mine12.wrote (ok : HoldOk Hp) {w wr w' : World} {G G' : Nat → Prop} {g : Nat} {N D : Int} {hs : List Hd} (h : Mine12 Hp w G g N D hs wr) (hk : Keeps G wr w') (hG : ∀ k, G' k → G k ∨ wr.heap.size ≤ k) (hl : Lies G' w') : Mine12 Hp w G' g N D hs w' := by
  obtain ⟨F, A, h1, h2, h3, h4, h5, h6, h7⟩ := h
  refine ⟨F, A, ok.keeps h1 hk h4 h5, h2, hk.below h3 h7 h3.size, fun k f q => ?_, fun k f q => ?_, hl, fun k q => ?_⟩
  · rcases hG k q with r | r
    · exact h4 k f r
    · have := (ok.lies h1).1 k f; omega
  · rcases hG k q with r | r
    · exact h5 k f r
    · have := (ok.lies h1).2 k f; omega
  · rcases hG k q with r | r
    · exact h7 k r
    · exact Nat.le_trans h3.size r
theorem Mine12.next (ok : HoldOk Hp) {w wr w' : World} {G : Nat → Prop} {g : Nat} {N D : Int} {hs : List Hd} (h : Mine12 Hp w G g N D hs wr) (hb : Below wr.heap.size wr w') : Mine12 Hp w G g N D hs w' :=
  h.wrote ok (Keeps.of hb) (fun _ q => .inl q) (h.lies.next hb.size)
theorem Mine12.less (ok : HoldOk Hp) {w wr : World} {G G' : Nat → Prop} {g : Nat} {N D : Int} {hs : List Hd} (h : Mine12 Hp w G g N D hs wr) (hG : ∀ k, G' k → G k) : Mine12 Hp w G' g N D hs wr :=
  h.wrote ok (Keeps.refl _ _) (fun k q => .inl (hG k q)) (fun k q => h.lies k (hG k q))
/-- .. a block of its own, new -/
theorem Mine12.own1 (ok : HoldOk Hp) {w wr : World} {G : Nat → Prop} {g : Nat} {N D : Int} {hs : List Hd} (h : Mine12 Hp w G g N D hs wr) (o : Obj) : Mine12 Hp w (fun k => G k ∨ k = wr.heap.size) g N D hs (wr.alloc o) :=
  h.wrote ok (Keeps.of (wbox _ _)) (fun k q => q.imp id (fun e => by omega)) (fun k q => by
    rcases q with q | q
    · have := h.lies k q; simp; omega
    · simp; omega)
/-- .. a block that is there, and new since the ledger's making -/
theorem Mine12.own (ok : HoldOk Hp) {w wr w' : World} {G : Nat → Prop} {g b : Nat} {N D : Int} {hs : List Hd} (h : Mine12 Hp w G g N D hs wr) (hb : Below wr.heap.size wr w') (h1 : wr.heap.size ≤ b) (h2 : b < w'.heap.size) : Mine12 Hp w (fun k => G k ∨ k = b) g N D hs w' :=
  h.wrote ok (Keeps.of hb) (fun k q => q.imp id (fun e => by omega)) (fun k q => by
    rcases q with q | q
    · exact Nat.lt_of_lt_of_le (h.lies k q) hb.size
    · omega)
theorem hnew (ok : HoldOk Hp) (v : Value) (N D : Int) (L b : Nat) (w : World) (hv : Rat w b L v N D) (hL : L ≤ 3) (hD : 0 < D) : Calls Try.prog 11 #[v] w fun z w' => ∃ g, z = .returned (.pointer (some ⟨g, 0, none⟩)) ∧ Mine12 Hp w G0 g N D [] w' :=
  (ok.new_yes v N D L b w hv hL hD).mono fun _ _ ⟨g, F, A, h1, h2, h3, h5⟩ => ⟨g, h1, F, A, h2, h3, h5, fun _ _ q => q, fun _ _ q => q, (fun _ q => q.elim), (fun _ q => q.elim)⟩
theorem hjoin (ok : HoldOk Hp) {w wr : World} {G : Nat → Prop} {N D : Int} (g : Nat) (hs : List Hd) (id E P : Int) (h : Mine12 Hp w G g N D hs wr) (hl : hs.length ≤ 19) (c : Int) (hs' : List Hd) (hv : joinV N D hs id E P = (c, hs')) : Calls Try.prog 23 #[.pointer (some ⟨g, 0, none⟩), .int .i64 id, .agg #[.int .i64 E, .int .i64 P]] wr fun z w' => z = .returned (.int .i64 c) ∧ Mine12 Hp w G g N D hs' w' ∧ Holds G wr w' ∧ NumsKept wr w' := by
  obtain ⟨F, A, h1, h2, h3, h4, h5, h6, h7⟩ := h
  have := ok.join g F A N D hs id E P wr h1 hl
  rw [hv] at this
  exact this.mono fun _ _ ⟨a, b⟩ => ⟨a, Mine12.stays ok h1 h2 h3 h4 h5 h6 h7 b⟩
theorem hask (ok : HoldOk Hp) {w wr : World} {G : Nat → Prop} {N D : Int} (g : Nat) (hs : List Hd) (id E P : Int) (h : Mine12 Hp w G g N D hs wr) (hl : hs.length ≤ 19) (c : Int) (hs' : List Hd) (hv : askV N D hs id E P = (c, hs')) : Calls Try.prog 13 #[.pointer (some ⟨g, 0, none⟩), .int .i64 id, .agg #[.int .i64 E, .int .i64 P]] wr fun z w' => z = .returned (.int .i64 c) ∧ Mine12 Hp w G g N D hs' w' ∧ Holds G wr w' ∧ NumsKept wr w' := by
  obtain ⟨F, A, h1, h2, h3, h4, h5, h6, h7⟩ := h
  have := ok.ask g F A N D hs id E P wr h1 hl
  rw [hv] at this
  exact this.mono fun _ _ ⟨a, b⟩ => ⟨a, Mine12.stays ok h1 h2 h3 h4 h5 h6 h7 b⟩
theorem hsettle (ok : HoldOk Hp) {w wr : World} {G : Nat → Prop} {N D : Int} (g : Nat) (hs : List Hd) (id : Int) (h : Mine12 Hp w G g N D hs wr) (hl : hs.length ≤ 19) (c : Int) (hs' : List Hd) (hv : settleV hs id = (c, hs')) : Calls Try.prog 15 #[.pointer (some ⟨g, 0, none⟩), .int .i64 id] wr fun z w' => z = .returned (.int .i64 c) ∧ Mine12 Hp w G g N D hs' w' ∧ Holds G wr w' ∧ NumsKept wr w' := by
  obtain ⟨F, A, h1, h2, h3, h4, h5, h6, h7⟩ := h
  have := ok.settle g F A N D hs id wr h1 hl
  rw [hv] at this
  exact this.mono fun _ _ ⟨a, b⟩ => ⟨a, Mine12.stays ok h1 h2 h3 h4 h5 h6 h7 b⟩
theorem hfree (ok : HoldOk Hp) {w wr : World} {G : Nat → Prop} {N D : Int} (g : Nat) (hs : List Hd) (id : Int) (h : Mine12 Hp w G g N D hs wr) (hl : hs.length ≤ 19) (c : Int) (hs' : List Hd) (hv : freeV hs id = (c, hs')) : Calls Try.prog 17 #[.pointer (some ⟨g, 0, none⟩), .int .i64 id] wr fun z w' => z = .returned (.int .i64 c) ∧ Mine12 Hp w G g N D hs' w' ∧ Holds G wr w' ∧ NumsKept wr w' := by
  obtain ⟨F, A, h1, h2, h3, h4, h5, h6, h7⟩ := h
  have := ok.free g F A N D hs id wr h1 hl
  rw [hv] at this
  exact this.mono fun _ _ ⟨a, b⟩ => ⟨a, Mine12.stays ok h1 h2 h3 h4 h5 h6 h7 b⟩
theorem hheld (ok : HoldOk Hp) {w wr : World} {G : Nat → Prop} {N D : Int} (g : Nat) (hs : List Hd) (h : Mine12 Hp w G g N D hs wr) (hl : hs.length ≤ 20) : Calls Try.prog 26 #[.pointer (some ⟨g, 0, none⟩)] wr (GivesLo wr HL (sumH hs).1 (sumH hs).2) := by
  obtain ⟨F, A, h1, _⟩ := h
  exact ok.held g F A N D hs  wr h1 hl
theorem hleft (ok : HoldOk Hp) {w wr : World} {G : Nat → Prop} {N D : Int} (g : Nat) (hs : List Hd) (h : Mine12 Hp w G g N D hs wr) (hl : hs.length ≤ 20) : Calls Try.prog 29 #[.pointer (some ⟨g, 0, none⟩)] wr (GivesLo wr HL (N * (sumH hs).2 - (sumH hs).1 * D) (D * (sumH hs).2)) := by
  obtain ⟨F, A, h1, _⟩ := h
  exact ok.left g F A N D hs  wr h1 hl
theorem hof (ok : HoldOk Hp) {w wr : World} {G : Nat → Prop} {N D : Int} (g : Nat) (hs : List Hd) (id : Int) (h : Mine12 Hp w G g N D hs wr) (hl : hs.length ≤ 20) : Calls Try.prog 21 #[.pointer (some ⟨g, 0, none⟩), .int .i64 id] wr (fun z w' => z = .returned (.tuple #[.agg #[.int .i64 (ofH hs id).1.1, .int .i64 (ofH hs id).1.2], .agg #[.int .i64 (ofH hs id).2.1.1, .int .i64 (ofH hs id).2.1.2], .bool (ofH hs id).2.2]) ∧ Below wr.heap.size wr w') := by
  obtain ⟨F, A, h1, _⟩ := h
  exact ok.of_ g F A N D hs id wr h1 hl
theorem hfits (ok : HoldOk Hp) {w wr : World} {G : Nat → Prop} {N D : Int} (g : Nat) (hs : List Hd) (E P E2 P2 : Int) (h : Mine12 Hp w G g N D hs wr) (hl : hs.length ≤ 20) : Calls Try.prog 19 #[.pointer (some ⟨g, 0, none⟩), .agg #[.int .i64 E, .int .i64 P], .agg #[.int .i64 E2, .int .i64 P2]] wr (fun z w' => z = .returned (.bool (fitsV N D hs E P E2 P2)) ∧ Below wr.heap.size wr w') := by
  obtain ⟨F, A, h1, _⟩ := h
  exact ok.fits g F A N D hs E P E2 P2 wr h1 hl
theorem hlen (ok : HoldOk Hp) {w wr : World} {G : Nat → Prop} {N D : Int} (g : Nat) (hs : List Hd) (h : Mine12 Hp w G g N D hs wr) (hl : hs.length ≤ 20) : Calls Try.prog 30 #[.pointer (some ⟨g, 0, none⟩)] wr (fun z w' => z = .returned (.int .i64 (hs.length : Int)) ∧ Below wr.heap.size wr w') := by
  obtain ⟨F, A, h1, _⟩ := h
  exact ok.len g F A N D hs  wr h1 hl
end
end Go.Proofs.Ytphlkpkbdnddlaa
namespace Go.Proofs.Ytphlkpkbdnddlaa
open Go.RowKit

theorem may_dec (E P : Int) : MayBe E P ∨ ¬ MayBe E P := Classical.em _
theorem r12_join (r : Nat) (R : Nat → Prop) (v : Value) (hs : List Hd) (id E P N D : Int) (L b : Nat) (w : World) (h : RL w r R v hs) (hv : Rat w b L v N D) (g : GoodL N D hs) (hl : hs.length ≤ 19) (hL : L ≤ 9) (c : Int) (hs' : List Hd) (hc : joinV N D hs id E P = (c, hs')) :
    Calls Try.prog 24 #[.pointer (some ⟨r, 0, none⟩), .int .i64 id, .agg #[.int .i64 E, .int .i64 P]] w fun e w' => e = .returned (.int .i64 c) ∧ HStay w r R v hs' w' := by
  unfold joinV at hc
  rcases may_dec E P with hM | hM
  · rw [mayB_yes hM, if_neg (by simp)] at hc
    cases hf : findH hs id with
    | some j =>
      rw [hf] at hc
      cases hc
      obtain ⟨x, hj, hx⟩ := findH_some hf
      exact r12join_there r R v hs id E P w h hM ⟨x, List.mem_of_getElem? hj, hx⟩
    | none =>
      rw [hf] at hc
      refine r12join_new r R v hs id E P N D L b w h hv g.each hM (findH_none hf) hl hL c hs' (fun q => ?_) (fun q => ?_)
      · simp only [q, if_true] at hc; cases hc; exact ⟨rfl, rfl⟩
      · simp only [q] at hc; cases hc; exact ⟨rfl, rfl⟩
  · rw [mayB_no hM, if_pos rfl] at hc
    cases hc
    exact r12join_arg r R v hs id E P w h hM
theorem uniq_at {hs : List Hd} {id : Int} {j : Nat} {x : Hd} (u : UniqH hs) (hj : hs[j]? = some x) (hx : x.id = id) : ∀ i y, hs[i]? = some y → y.id = id → i = j := fun i y hi hy => u i j y x hi hj (by rw [hx, hy])
theorem r12_ask (r : Nat) (R : Nat → Prop) (v : Value) (hs : List Hd) (id E P N D : Int) (L b : Nat) (w : World) (h : RL w r R v hs) (hv : Rat w b L v N D) (g : GoodL N D hs) (hl : hs.length ≤ 20) (hL : L ≤ 9) (c : Int) (hs' : List Hd) (hc : askV N D hs id E P = (c, hs')) :
    Calls Try.prog 14 #[.pointer (some ⟨r, 0, none⟩), .int .i64 id, .agg #[.int .i64 E, .int .i64 P]] w fun e w' => e = .returned (.int .i64 c) ∧ HStay w r R v hs' w' := by
  unfold askV at hc
  rcases may_dec E P with hM | hM
  · rw [mayB_yes hM, if_neg (by simp)] at hc
    cases hf : findH hs id with
    | none =>
      rw [hf] at hc
      cases hc
      exact r12ask_none r R v hs id E P w h hM (findH_none hf)
    | some j =>
      obtain ⟨x, hj, hx⟩ := findH_some hf
      simp only [hf, hj] at hc
      cases ha : x.asked with
      | true =>
        simp only [ha, if_true] at hc
        cases hc
        exact r12ask_state r R v hs id E P j x w h hM hj hx (uniq_at g.uniq hj hx) ha
      | false =>
        refine r12ask_new r R v hs id E P N D j x L b w h hv g.each hM hj hx (uniq_at g.uniq hj hx) ha hl hL c hs' (fun q => ?_) (fun q => ?_)
        · simp only [ha, q] at hc; cases hc; exact ⟨rfl, rfl⟩
        · simp only [ha, q] at hc; cases hc; exact ⟨rfl, rfl⟩
  · rw [mayB_no hM, if_pos rfl] at hc
    cases hc
    exact r12ask_arg r R v hs id E P w h hM
theorem r12_settle (r : Nat) (R : Nat → Prop) (v : Value) (hs : List Hd) (id : Int) (w : World) (h : RL w r R v hs) (u : UniqH hs) (c : Int) (hs' : List Hd) (hc : settleV hs id = (c, hs')) :
    Calls Try.prog 16 #[.pointer (some ⟨r, 0, none⟩), .int .i64 id] w fun e w' => e = .returned (.int .i64 c) ∧ HStay w r R v hs' w' := by
  unfold settleV at hc
  cases hf : findH hs id with
  | none =>
    rw [hf] at hc
    cases hc
    exact r12settle_none r R v hs id w h (findH_none hf)
  | some j =>
    obtain ⟨x, hj, hx⟩ := findH_some hf
    simp only [hf, hj] at hc
    refine r12settle_some r R v hs id j x w h hj hx (uniq_at u hj hx) c hs' ?_
    cases ha : x.asked with
    | true => simp only [ha, if_true] at hc; cases hc; exact .inr ⟨rfl, rfl, rfl⟩
    | false => simp only [ha] at hc; cases hc; exact .inl ⟨rfl, rfl, rfl⟩
theorem r12_free (r : Nat) (R : Nat → Prop) (v : Value) (hs : List Hd) (id : Int) (w : World) (h : RL w r R v hs) (u : UniqH hs) (hl : hs.length ≤ 400) (c : Int) (hs' : List Hd) (hc : freeV hs id = (c, hs')) :
    Calls Try.prog 18 #[.pointer (some ⟨r, 0, none⟩), .int .i64 id] w fun e w' => e = .returned (.int .i64 c) ∧ HStay w r R v hs' w' := by
  unfold freeV at hc
  cases hf : findH hs id with
  | none =>
    rw [hf] at hc
    cases hc
    exact r12free_none r R v hs id w h (findH_none hf)
  | some j =>
    obtain ⟨x, hj, hx⟩ := findH_some hf
    simp only [hf] at hc
    cases hc
    exact r12free_some r R v hs id j x w h hj hx (uniq_at u hj hx) hl
theorem r12_fits (r : Nat) (R : Nat → Prop) (v : Value) (hs : List Hd) (E P E2 P2 N D : Int) (L b : Nat) (w : World) (h : RL w r R v hs) (hv : Rat w b L v N D) (g : GoodL N D hs) (hl : hs.length ≤ 19) (hL : L ≤ 3) (fb : Bool) (hfb : fitsV N D hs E P E2 P2 = fb) :
    Calls Try.prog 20 #[.pointer (some ⟨r, 0, none⟩), .agg #[.int .i64 E, .int .i64 P], .agg #[.int .i64 E2, .int .i64 P2]] w fun e w' => e = .returned (.bool fb) ∧ Below w.heap.size w w' := by
  rcases may_dec E P with hM | hM
  · exact r12fit_yes r R v hs E P E2 P2 N D L b w h hv g.each hM hl hL fb hfb
  · rw [fitsV_no hM] at hfb
    subst hfb
    exact r12fit_arg r R v hs E P E2 P2 w h hM
/-! ### limbs by values -/
theorem Rat.tight {W : World} {b L p : Nat} {v : Value} {n d : Int} (h : Rat W b L v n d) (hn : n < 4294967296 ^ p) (hd : d < 4294967296 ^ p) : Rat W b p v n d := by
  obtain ⟨an, ln, cn, zn, ad, ld, cd, zd, rfl, h1, h2, h3, h4, _, _, h7, h8⟩ := h
  exact ⟨an, ln, cn, zn, ad, ld, cd, zd, rfl, h1, h2, h3, h4, by have := h2.len_le (by omega) hn; have := h1.len; omega, by have := h4.len_le (by omega) hd; have := h3.len; omega, h7, h8⟩
theorem small_may {p : Int × Int} (h : MayBe p.1 p.2) : Small p := by
  obtain ⟨h1, h2, h3⟩ := h
  unfold Small
  omega
theorem sumH_bd {hs : List Hd} (g : ∀ x ∈ hs, GoodH x) (hl : hs.length ≤ 20) : 0 ≤ (sumH hs).1 ∧ (sumH hs).1 < 4294967296 ^ 14 ∧ 0 < (sumH hs).2 ∧ (sumH hs).2 < 4294967296 ^ 14 := by
  have h := sum_bd (wsL hs) (fun p hp => by
    obtain ⟨x, hx, rfl⟩ := List.mem_map.mp hp
    exact small_may (holdsV_may (g x hx)))
  rw [wsL_len] at h
  obtain ⟨h1, h2, h3, h4⟩ := h
  have k1 : (1048576 : Int) ^ hs.length ≤ 1048576 ^ 20 := ipow_le (by omega) hl
  have k2 : (hs.length : Int) * 1048576 ^ hs.length ≤ 20 * 1048576 ^ 20 := Int.mul_le_mul (by omega) k1 (Int.le_of_lt (ipow_pos (by omega) _)) (by omega)
  have k3 : (20 : Int) * 1048576 ^ 20 < 4294967296 ^ 14 := by decide
  have k4 : (1048576 : Int) ^ 20 < 4294967296 ^ 14 := by decide
  unfold sumH
  omega
/-- what is held, as it is told -/
theorem held_tight {w w' : World} {L : Nat} {e : Ending} {hs : List Hd} (h : GivesLo w L (sumH hs).1 (sumH hs).2 e w') (g : ∀ x ∈ hs, GoodH x) (hl : hs.length ≤ 20) :
    ∃ v n d, e = .returned v ∧ Rat w' 0 14 v n d ∧ Lo n d ∧ n * (sumH hs).2 = (sumH hs).1 * d ∧ Below w.heap.size w w' := by
  obtain ⟨v, n, d, rfl, hr, hlo, he, hb⟩ := h
  obtain ⟨b1, b2, b3, b4⟩ := sumH_bd g hl
  have k := lo_le hlo b1 b3 he
  exact ⟨v, n, d, rfl, hr.tight (by omega) (by omega), hlo, he, hb⟩
end Go.Proofs.Ytphlkpkbdnddlaa
namespace Go.Proofs.Ytphlkpkbdnddlaa
open Go.RowKit

set_option maxHeartbeats 1000000 in
theorem one_any (n d : Int) (w : World) (n0 : 0 ≤ n) (n1 : n < 4294967296) (d0 : 0 ≤ d) (d1 : d < 4294967296) :
    Calls Try.prog 10 #[.int .u64 n, .int .u64 d] w (GivesR w 1 n d) := by
  have n9 : n ≤ 18446744073709551615 := by omega
  have d9 : d ≤ 18446744073709551615 := by omega
  have Z := Lib.hid (Blk.new w 27 #[.slice none 0 0, .slice none 0 0])
  have N1 := Lib.hid n1
  have D1 := Lib.hid d1
  clear n1 d1
  go_enter Try.func10, Try.ntmps10
  go_wp2_with fail
  refine (of_any n _ n0 n9).mono ?_
  rintro e w1 ⟨a1, l1, c1, z1, rfl, hr, hi, hb, hf⟩
  have R1 := Lib.hid hr; have I1 := Lib.hid hi; have F1 := Lib.hid hf
  have B := Lib.hid (below_next (wbox _ _) hb)
  have Z := Lib.hid (Z.out.below hb)
  clear hr hi hf hb
  go_wp2_with fail
  refine (of_any d _ d0 d9).mono ?_
  rintro e w2 ⟨a2, l2, c2, z2, rfl, hr, hi, hb, hf⟩
  have R1 := Lib.hid (R1.out.below hb)
  have R2 := Lib.hid hr; have I2 := Lib.hid hi; have F2 := Lib.hid hf
  have SZ := Lib.hid (show w.heap.size + 1 ≤ w1.heap.size by have := Z.out.lt; omega)
  have B := Lib.hid (below_next B.out hb)
  have Z := Lib.hid (Z.out.below hb)
  clear hr hi hf hb
  have s0 := Z.out.cell 0
  have s1 := Z.out.cell 1
  have f0 := Z.out.free 0
  have f1 := Z.out.free 1
  simp at s0 s1
  go_wp2
  have hn1 : ∀ ad : Addr, a1 = some ad → ad.block ≠ w.heap.size := fun ad e => by have h1 := F1.out ad e; simp at h1; omega
  have hn2 : ∀ ad : Addr, a2 = some ad → ad.block ≠ w.heap.size := fun ad e => by have h1 := F2.out ad e; have := SZ.out; omega
  refine bodyPost_ret (v := .agg #[.slice a1 l1 c1, .slice a2 l2 c2]) (by simp [results, Try.results10, go_sem, s0, s1]) rfl ⟨_, rfl, ⟨a1, l1, c1, z1, a2, l2, c2, z2, rfl, ?_, I1.out, ?_, I2.out, ?_, ?_, ?_, ?_⟩, ?_⟩
  · exact (R1.out.setCell _ _ hn1).setCell _ _ hn1
  · exact (R2.out.setCell _ _ hn2).setCell _ _ hn2
  · rw [← R1.out.len]; exact one_limb I1.out N1.out
  · rw [← R2.out.len]; exact one_limb I2.out D1.out
  · exact F1.out.mono (by simp)
  · exact F2.out.mono (by have := SZ.out; omega)
  · exact (B.out.setCell (Nat.le_refl _) _).setCell (Nat.le_refl _) _
/-- a weight by numbers, that may not always be -/
def mkM (p : Int × Int) : Int × Int := (bits .and .i64 p.1 31 - 1, bits .and .i64 p.2 31)
theorem mkM_bd (p : Int × Int) : -1 ≤ (mkM p).1 ∧ (mkM p).1 ≤ 30 ∧ 0 ≤ (mkM p).2 ∧ (mkM p).2 ≤ 31 := by
  have h1 := mask_le p.1 31 (by omega) (by omega)
  have h2 := mask_le p.2 31 (by omega) (by omega)
  unfold mkM
  omega
theorem made12_any (a b : Int) (w : World) (x y : Int) (h : mkM (a, b) = (x, y)) : Calls Try.prog 12 #[.agg #[.int .i64 a, .int .i64 b]] w fun e w' => e = .returned (.agg #[.int .i64 x, .int .i64 y]) ∧ Below w.heap.size w w' := by
  have h1 := mask_le a 31 (by omega) (by omega)
  cases h
  have wr : IntKind.i64.wrap (bits .and .i64 a 31 - 1) = bits .and .i64 a 31 - 1 := IntWalk.i64_in _ (by omega)
  clear h1
  go_enter Try.func12, Try.ntmps12
  go_wp2
  exact bodyPost_ret (v := .agg #[.int .i64 (bits .and .i64 a 31 - 1), .int .i64 (bits .and .i64 b 31)]) (by simp [results, Try.results12, go_sem]) rfl ⟨rfl, wbox2 _ _ _⟩
/-! ### awake -/
section
variable {Hp : World → Nat → (Nat → Prop) → (Nat → Prop) → Int → Int → List Hd → Prop}
def aw1 : List Hd := [newH 1 1 2]
def aw2 : List Hd := [⟨1, 1, 2, 3, 4, true⟩]
theorem aw_a : joinV 1 1 [] 1 1 2 = (0, aw1) := by rfl
theorem aw_b : joinV 1 1 aw1 2 2 3 = (18, aw1) := by rfl
theorem aw_c : askV 1 1 aw1 1 3 4 = (0, aw2) := by rfl
theorem aw_d : joinV 1 1 aw2 2 1 3 = (18, aw2) := by rfl
set_option maxHeartbeats 1000000 in
theorem awake12_any (ok : HoldOk Hp) (w : World) : Calls Try.prog 9 #[] w fun e w' => e = .returned (.bool true) ∧ Below w.heap.size w w' := by
  have OK := Lib.hid ok
  clear ok
  go_enter Try.func9, Try.ntmps9
  go_wp2_with fail
  refine (one_any 1 1 _ (by omega) (by omega) (by omega) (by omega)).mono ?_
  rintro e w1 ⟨v, rfl, hr, hb⟩
  have B1 := Lib.hid hb
  have R1 := Lib.hid hr
  clear hb hr
  go_wp2_with fail
  refine (hnew OK.out v 1 1 1 _ _ R1.out (by omega) (by omega)).mono ?_
  rintro e w2 ⟨g, rfl, hm⟩
  have M := Lib.hid hm
  clear hm
  go_wp2_with fail
  refine (hjoin OK.out g [] 1 1 2 M.out (by simp) 0 aw1 aw_a).mono ?_
  rintro e w3 ⟨rfl, hm, _, _⟩
  have M := Lib.hid hm
  clear hm
  go_wp2_with fail
  refine (hjoin OK.out g aw1 2 2 3 M.out (by simp [aw1]) 18 aw1 aw_b).mono ?_
  rintro e w4 ⟨rfl, hm, _, _⟩
  have M := Lib.hid hm
  clear hm
  go_wp2_with fail
  refine (hask OK.out g aw1 1 3 4 M.out (by simp [aw1]) 0 aw2 aw_c).mono ?_
  rintro e w5 ⟨rfl, hm, _, _⟩
  have M := Lib.hid hm
  clear hm
  go_wp2_with fail
  refine (hjoin OK.out g aw2 2 1 3 M.out (by simp [aw2]) 18 aw2 aw_d).mono ?_
  rintro e w6 ⟨rfl, hm, _, _⟩
  have M := Lib.hid hm
  clear hm
  go_wp2_with fail
  refine (hlen OK.out g aw2 M.out (by simp [aw2])).mono ?_
  rintro e w7 ⟨rfl, hb⟩
  have B7 := Lib.hid (below_next B1.out (below_next M.out.below hb))
  clear hb
  go_wp2
  go_ret
  exact ⟨rfl, B7.out⟩
end
end Go.Proofs.Ytphlkpkbdnddlaa

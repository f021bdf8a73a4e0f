/-
  Plain facts: sums hang on no order; what was added is taken away again.
-/
import Derived.Test.YtenibpnifnlfeaaRp3
import Derived.Laws.AppendOwnNone
namespace Go.Proofs.Ytenibpnifnlfeaa
open Go.RowKit

theorem sumR_from (vs : List (Int × Int)) : ∀ r : Int × Int, vs.foldl (fun r p => (r.1 * p.2 + p.1 * r.2, r.2 * p.2)) r = (r.1 * (sumR vs).2 + (sumR vs).1 * r.2, r.2 * (sumR vs).2) := by
  induction vs with
  | nil => intro r; simp [sumR]
  | cons p l ih =>
    intro r
    have e : sumR (p :: l) = ((0 * p.2 + p.1 * 1) * (sumR l).2 + (sumR l).1 * (1 * p.2), (1 * p.2) * (sumR l).2) := by
      unfold sumR
      rw [List.foldl_cons, ih]
      rfl
    rw [List.foldl_cons, ih, e]
    simp only [Prod.mk.injEq]
    constructor <;> grind
theorem sumR_append (ws vs : List (Int × Int)) : sumR (ws ++ vs) = ((sumR ws).1 * (sumR vs).2 + (sumR vs).1 * (sumR ws).2, (sumR ws).2 * (sumR vs).2) := by
  have e : sumR (ws ++ vs) = vs.foldl (fun r p => (r.1 * p.2 + p.1 * r.2, r.2 * p.2)) (sumR ws) := by
    unfold sumR; rw [List.foldl_append]
  rw [e, sumR_from]
theorem sumR_one (p : Int × Int) : sumR [p] = (p.1, p.2) := by
  unfold sumR; simp
theorem sumR_cons (p : Int × Int) (l : List (Int × Int)) : sumR (p :: l) = (p.1 * (sumR l).2 + (sumR l).1 * p.2, p.2 * (sumR l).2) := by
  have := sumR_append [p] l
  rw [sumR_one] at this
  exact this
theorem sumR_reverse (ws : List (Int × Int)) : sumR ws.reverse = sumR ws := by
  induction ws with
  | nil => rfl
  | cons p l ih =>
    rw [List.reverse_cons, sumR_snoc, ih, sumR_cons]
    simp only [Prod.mk.injEq]
    constructor <;> grind
/-- two least ratios that are as much as one -/
theorem lo_same {n d n' d' N D : Int} (h : Lo n d) (h' : Lo n' d') (hD : 0 < D) (e : n * D = N * d) (e' : n' * D = N * d') : n = n' ∧ d = d' := by
  refine lo_unique h h' ?_
  refine Int.eq_of_mul_eq_mul_right (show D ≠ 0 by omega) ?_
  have s1 : n * d' * D = (n * D) * d' := by grind
  have s2 : n' * d * D = (n' * D) * d := by grind
  rw [s1, s2, e, e']
  grind
theorem sum_ge {n1 d1 n2 d2 n3 d3 : Int} (h1 : 0 < d1) (h2 : 0 < d2) (h3 : 0 < d3) (p1 : 0 ≤ n1) (p2 : 0 ≤ n2) (e : n3 * (d1 * d2) = (n1 * d2 + n2 * d1) * d3) : n2 * d3 ≤ n3 * d2 ∧ n1 * d3 ≤ n3 * d1 := by
  have k1 : 0 ≤ (n1 * d2) * d3 := Int.mul_nonneg (Int.mul_nonneg p1 (by omega)) (by omega)
  have k2 : 0 ≤ (n2 * d1) * d3 := Int.mul_nonneg (Int.mul_nonneg p2 (by omega)) (by omega)
  have s : (n1 * d2 + n2 * d1) * d3 = (n1 * d2) * d3 + (n2 * d1) * d3 := by grind
  have s1 : n3 * (d1 * d2) = (n3 * d2) * d1 := by grind
  have s2 : n3 * (d1 * d2) = (n3 * d1) * d2 := by grind
  have s3 : (n2 * d1) * d3 = (n2 * d3) * d1 := by grind
  have s4 : (n1 * d2) * d3 = (n1 * d3) * d2 := by grind
  exact ⟨Int.le_of_mul_le_mul_right (show (n2 * d3) * d1 ≤ (n3 * d2) * d1 by omega) h1, Int.le_of_mul_le_mul_right (show (n1 * d3) * d2 ≤ (n3 * d1) * d2 by omega) h2⟩
/-- what was added is taken away again -/
theorem sub_back {n1 d1 n2 d2 n3 d3 n4 d4 : Int} (h1 : Lo n1 d1) (h2 : 0 < d2) (h3 : 0 < d3) (h4 : Lo n4 d4) (e : n3 * (d1 * d2) = (n1 * d2 + n2 * d1) * d3) (e' : n4 * (d3 * d2) = (n3 * d2 - n2 * d3) * d4) : n4 = n1 ∧ d4 = d1 := by
  refine lo_unique h4 h1 ?_
  have P := Int.mul_pos h3 h2
  refine Int.eq_of_mul_eq_mul_right (show d3 * d2 ≠ 0 by omega) ?_
  have s1 : n4 * d1 * (d3 * d2) = (n4 * (d3 * d2)) * d1 := by grind
  have s2 : (n3 * d2 - n2 * d3) * d4 * d1 = (n3 * (d1 * d2)) * d4 - n2 * d3 * d4 * d1 := by grind
  rw [s1, e', s2, e]
  grind
theorem add_turn {n1 d1 n2 d2 n d n' d' : Int} (h : Lo n d) (h' : Lo n' d') (hD : 0 < d1 * d2) (e : n * (d2 * d1) = (n2 * d1 + n1 * d2) * d) (e' : n' * (d1 * d2) = (n1 * d2 + n2 * d1) * d') : n = n' ∧ d = d' :=
  lo_same h h' hD (by rw [Int.mul_comm d1 d2, e]; grind) e'
theorem cmpI_nonneg {m n : Int} (h : n ≤ m) : 0 ≤ cmpI m n := by
  rcases Int.lt_or_eq_of_le h with g | g
  · rw [cmpI_gt g]; omega
  · rw [cmpI_eq g.symm]; omega
theorem drop_rev {ws : List (Int × Int)} {i : Nat} (h : i < ws.length) : (ws.drop i).reverse = (ws.drop (i + 1)).reverse ++ [ws.getD i (0, 0)] := by
  rw [List.drop_eq_getElem_cons h, List.reverse_cons, List.getD_eq_getElem?_getD, List.getElem?_eq_getElem h]; rfl
/-- the cells of a slice of pairs, as they are appended -/
theorem RowP.news {W : World} {ad : Addr} {len cap : Nat} {ps : List (Int × Int)} (h : RowP W (some ad) len cap ps) : ∀ j u, (cellsW ps)[j]? = some u → W.cell? (ad.add j) = some u := by
  intro j u hj
  have hlen : (cellsW ps).length = ps.length * 2 := by
    clear h hj
    induction ps with
    | nil => rfl
    | cons p l ih => rw [cellsW, List.length_cons, List.length_cons, ih, List.length_cons]; omega
  have hjl : j < ps.length * 2 := by
    rcases Nat.lt_or_ge j (ps.length * 2) with g | g
    · exact g
    · rw [List.getElem?_eq_none (by omega)] at hj; cases hj
  obtain ⟨b, off, ha, hx, hy⟩ := h.cell (i := j / 2) (by rw [← h.len]; omega)
  obtain rfl : ad = ⟨b, off, none⟩ := by simpa using ha
  have hg := cellsW_get ps (j / 2) (by omega)
  have hadd : (⟨b, off, none⟩ : Addr).add j = ⟨b, off + j, none⟩ := by
    by_cases h0 : j = 0
    · subst h0; simp [Addr.add]
    · simp [Addr.add, h0]
  rw [hadd]
  rcases Nat.mod_two_eq_zero_or_one j with g | g
  · have e : j = j / 2 * 2 := by omega
    rw [e] at hj ⊢
    rw [hg.1] at hj
    rw [← hj, hx]
  · have e : j = j / 2 * 2 + 1 := by omega
    rw [e] at hj ⊢
    rw [hg.2] at hj
    rw [← hj, ← Nat.add_assoc, hy]
theorem cellsW_one (ps : List (Int × Int)) : ∀ u ∈ cellsW ps, u.oneCell' = true := by
  induction ps with
  | nil => intro u hu; cases hu
  | cons p l ih =>
    intro u hu
    rw [cellsW] at hu
    rcases List.mem_cons.mp hu with rfl | hu
    · rfl
    · rcases List.mem_cons.mp hu with rfl | hu
      · rfl
      · exact ih u hu
theorem cellsW_len (ps : List (Int × Int)) : (cellsW ps).length = ps.length * 2 := by
  induction ps with
  | nil => rfl
  | cons p l ih => rw [cellsW, List.length_cons, List.length_cons, ih, List.length_cons]; omega
/-- append of a slice of pairs, nil or not, to a row of one's own -/
theorem wpList_append_pairs {w : World} {ops : Array Oper} {rest : List Oper} {o : Oper} {act : Act} {Q : Exit → Act → World → Prop} (hgd : o.guard = none) (s x : Operand)
    (ho : o.op = .call { callee := .builtin .append, args := #[s, x], argTypes := #[28, 28] }) (base : Nat) (v : Value) (ps0 : List (Int × Int)) (hs : act.eval s = v)
    (hown : w.ownsRow base 51 2 v ps0.length (cellsW ps0)) (A : Option Addr) (m c : Nat) (ps : List (Int × Int)) (hx : act.eval x = .slice A m c) (hr : RowP w A m c ps) (hb : base ≤ w.heap.size) (hsm : ps0.length + m ≤ 1000)
    (h : ∀ v' w', w'.ownsRow base 51 2 v' (ps0 ++ ps).length (cellsW (ps0 ++ ps)) → w.grownBy w' v.ownBlock → wpList Try.prog ops Q rest (act.put o.dst v') w') : wpList Try.prog ops Q (o :: rest) act w := by
  obtain ⟨i0, hi, hz0, hz1, hz2⟩ := info_parts Try.infoW
  rcases A with _ | ad
  · have hc : c = 0 := hr.2.2.2.1 rfl
    have hm : m = 0 := by have := hr.2.1; omega
    subst hc hm
    have hps : ps = [] := List.length_eq_zero_iff.mp hr.len
    subst hps
    refine wpList_append_own_none hgd s x _ ho base _ i0 2 Try.underlying28 hi v _ _ hs hown hx ?_
    exact h v w (by rw [List.append_nil]; exact hown) (World.grownBy.refl w _)
  · refine wpList_append_own _ hgd s x _ ho base _ i0 _ 2 16 Try.underlying28 hi hz0 hz1 hz2 rfl (by decide) v _ _ hs hown ad m c (cellsW ps) hx (by rw [cellsW_len, hr.len]) hr.news (cellsW_one ps) (by unfold maxLen; omega) (by omega) hb ?_
    intro v2 w2 ho2 hg2 _
    refine h v2 w2 ?_ hg2
    rw [List.length_append, cellsW_append, hr.len]
    exact ho2
end Go.Proofs.Ytenibpnifnlfeaa

/-
  Plain facts on sums of weights; no Go in sight.
  Plain facts: sums hang on no order; what was added is taken away again.
  What is added to a sum: plain facts; append in a drawn order.
-/
import Derived.Test.YtnlgophgglgneaaRqA
import Derived.Laws.AppendOwnNone
import Derived.Maps.AppendAt
namespace Go.Proofs.Ytnlgophgglgneaa
open Go.RowKit

/-- a least ratio's numbers are not greater than those of one that is as much -/
theorem lo_le {n d N D : Int} (h : Lo n d) (hN : 0 ≤ N) (hD : 0 < D) (e : n * D = N * d) : n ≤ N ∧ d ≤ D := by
  have hd : d ∣ D := by
    obtain ⟨x, y, rfl, rfl, y0, g⟩ := h.nat
    obtain ⟨X, rfl⟩ := Int.eq_ofNat_of_zero_le hN
    obtain ⟨Y, rfl⟩ := Int.eq_ofNat_of_zero_le (show 0 ≤ D by omega)
    have e' : x * Y = X * y := by exact_mod_cast e
    have d1 : y ∣ Y := (Nat.Coprime.symm g).dvd_of_dvd_mul_left (e' ▸ Nat.dvd_mul_left y X)
    exact Int.natCast_dvd_natCast.mpr d1
  have dD := Int.le_of_dvd hD hd
  refine ⟨?_, dD⟩
  have h1 : N * d ≤ N * D := Int.mul_le_mul_of_nonneg_left dD hN
  exact Int.le_of_mul_le_mul_right (show n * D ≤ N * D by omega) hD
/-- sums of weights to 2^20 -/
def Small (p : Int × Int) : Prop := 0 ≤ p.1 ∧ p.1 ≤ 1048576 ∧ 1 ≤ p.2 ∧ p.2 ≤ 1048576
theorem sum_bd_take (ws : List (Int × Int)) (h : ∀ p ∈ ws, Small p) (k : Nat) (hk : k ≤ ws.length) : 0 ≤ (sumR (ws.take k)).1 ∧ (sumR (ws.take k)).1 ≤ k * 1048576 ^ k ∧ 1 ≤ (sumR (ws.take k)).2 ∧ (sumR (ws.take k)).2 ≤ 1048576 ^ k := by
  induction k with
  | zero => simp [sumR]
  | succ k ih =>
    obtain ⟨a1, a2, a3, a4⟩ := ih (by omega)
    rw [takeP (show k < ws.length by omega), sumR_snoc, Int.pow_succ]
    obtain ⟨p, hp⟩ : ∃ p, ws.getD k (0, 0) = p := ⟨_, rfl⟩
    have hs : Small p := by
      rw [← hp, List.getD_eq_getElem?_getD, List.getElem?_eq_getElem (show k < ws.length by omega)]
      exact h _ (List.getElem_mem _)
    rw [hp]
    obtain ⟨b1, b2, b3, b4⟩ := hs
    obtain ⟨x, hx⟩ : ∃ x, (sumR (ws.take k)).1 = x := ⟨_, rfl⟩
    obtain ⟨y, hy⟩ : ∃ y, (sumR (ws.take k)).2 = y := ⟨_, rfl⟩
    rw [hx] at a1 a2 ⊢
    rw [hy] at a3 a4 ⊢
    have q0 := ipow_pos (B := 1048576) (by omega) k
    have m1 : x * p.2 ≤ (k * 1048576 ^ k) * 1048576 := Int.mul_le_mul a2 b4 (by omega) (Int.mul_nonneg (by omega) (by omega))
    have m2 : p.1 * y ≤ 1048576 * 1048576 ^ k := Int.mul_le_mul b2 a4 (by omega) (by omega)
    have m3 : y * p.2 ≤ 1048576 ^ k * 1048576 := Int.mul_le_mul a4 b4 (by omega) (by omega)
    have m4 : 0 ≤ x * p.2 := Int.mul_nonneg a1 (by omega)
    have m5 : 0 ≤ p.1 * y := Int.mul_nonneg b1 (by omega)
    have m6 : 1 * 1 ≤ y * p.2 := Int.mul_le_mul a3 b3 (by omega) (by omega)
    have e : ((k + 1 : Nat) : Int) * (1048576 ^ k * 1048576) = (k * 1048576 ^ k) * 1048576 + 1048576 * 1048576 ^ k := by
      rw [Int.natCast_add]; grind
    refine ⟨?_, ?_, ?_, ?_⟩
    · simp only; omega
    · simp only; rw [e]; omega
    · simp only; omega
    · exact m3
theorem sum_bd (ws : List (Int × Int)) (h : ∀ p ∈ ws, Small p) : 0 ≤ (sumR ws).1 ∧ (sumR ws).1 ≤ ws.length * 1048576 ^ ws.length ∧ 1 ≤ (sumR ws).2 ∧ (sumR ws).2 ≤ 1048576 ^ ws.length := by
  have := sum_bd_take ws h ws.length (Nat.le_refl _)
  rwa [List.take_length] at this
theorem small_mk (p : Int × Int) : Small (mkW p) := by
  obtain ⟨⟨h1, h2, h3, h4⟩, h5, h6⟩ := fit_mk p
  exact ⟨h1, by omega, h3, h6⟩
theorem smalls_mk (ps : List (Int × Int)) : ∀ p ∈ (ps.take 8).map mkW, Small p := by
  intro p hp
  obtain ⟨q, _, rfl⟩ := List.mem_map.mp hp
  exact small_mk q
/-- of at most 17 such weights, in 12 limbs (8: in 6) -/
theorem sum_lt8 {ws : List (Int × Int)} (h : ∀ p ∈ ws, Small p) (hl : ws.length ≤ 8) : 0 ≤ (sumR ws).1 ∧ (sumR ws).1 < 4294967296 ^ 6 ∧ 0 < (sumR ws).2 ∧ (sumR ws).2 < 4294967296 ^ 6 := by
  obtain ⟨a1, a2, a3, a4⟩ := sum_bd ws h
  have p := ipow_le (B := 1048576) (by omega) hl
  have e : (1048576 : Int) ^ 8 = 1461501637330902918203684832716283019655932542976 := by decide +kernel
  have e2 : (4294967296 : Int) ^ 6 = 6277101735386680763835789423207666416102355444464034512896 := by decide +kernel
  have m : (ws.length : Int) * 1048576 ^ ws.length ≤ 8 * 1048576 ^ 8 := Int.mul_le_mul (by omega) p (Int.le_of_lt (ipow_pos (by omega) _)) (by omega)
  rw [e2]
  omega
theorem take8_len (ps : List (Int × Int)) : ((ps.take 8).map mkW).length ≤ 8 := by rw [List.length_map, List.length_take]; omega
/-- two ratios are in the order of two that are as much -/
theorem cmp_frac {n1 d1 n2 d2 N1 D1 N2 D2 : Int} (hd1 : 0 < d1) (hd2 : 0 < d2) (hD1 : 0 < D1) (hD2 : 0 < D2) (e1 : n1 * D1 = N1 * d1) (e2 : n2 * D2 = N2 * d2) : cmpI (n1 * d2) (n2 * d1) = cmpI (N1 * D2) (N2 * D1) := by
  have P := Int.mul_pos hD1 hD2
  have Q := Int.mul_pos hd1 hd2
  have s1 : (n1 * d2) * (D1 * D2) = (N1 * D2) * (d1 * d2) := by
    have : (n1 * d2) * (D1 * D2) = (n1 * D1) * (d2 * D2) := by grind
    rw [this, e1]; grind
  have s2 : (n2 * d1) * (D1 * D2) = (N2 * D1) * (d1 * d2) := by
    have : (n2 * d1) * (D1 * D2) = (n2 * D2) * (d1 * D1) := by grind
    rw [this, e2]; grind
  rw [← cmpI_mul (n1 * d2) (n2 * d1) P, s1, s2, cmpI_mul _ _ Q]
theorem lt_of_cmp {m n : Int} (h : cmpI m n < 0) : m < n := by
  rcases Int.lt_trichotomy m n with g | g | g
  · exact g
  · rw [cmpI_eq g] at h; omega
  · rw [cmpI_gt g] at h; omega
theorem ge_of_cmp {m n : Int} (h : 0 ≤ cmpI m n) : n ≤ m := by
  rcases Int.lt_trichotomy m n with g | g | g
  · rw [cmpI_lt g] at h; omega
  · omega
  · omega
end Go.Proofs.Ytnlgophgglgneaa
namespace Go.Proofs.Ytnlgophgglgneaa
open Go.RowKit

theorem sumR_from (vs : List (Int × Int)) : ∀ r : Int × Int, vs.foldl (fun r p => (r.1 * p.2 + p.1 * r.2, r.2 * p.2)) r = (r.1 * (sumR vs).2 + (sumR vs).1 * r.2, r.2 * (sumR vs).2) := by
  induction vs with
  | nil => intro r; simp [sumR]
  | cons p l ih =>
    intro r
    have e : sumR (p :: l) = ((0 * p.2 + p.1 * 1) * (sumR l).2 + (sumR l).1 * (1 * p.2), (1 * p.2) * (sumR l).2) := by
      unfold sumR
      rw [List.foldl_cons, ih]
      rfl
    rw [List.foldl_cons, ih, e]
    simp only [Prod.mk.injEq]
    constructor <;> grind
theorem sumR_append (ws vs : List (Int × Int)) : sumR (ws ++ vs) = ((sumR ws).1 * (sumR vs).2 + (sumR vs).1 * (sumR ws).2, (sumR ws).2 * (sumR vs).2) := by
  have e : sumR (ws ++ vs) = vs.foldl (fun r p => (r.1 * p.2 + p.1 * r.2, r.2 * p.2)) (sumR ws) := by
    unfold sumR; rw [List.foldl_append]
  rw [e, sumR_from]
theorem sumR_one (p : Int × Int) : sumR [p] = (p.1, p.2) := by
  unfold sumR; simp
theorem sumR_cons (p : Int × Int) (l : List (Int × Int)) : sumR (p :: l) = (p.1 * (sumR l).2 + (sumR l).1 * p.2, p.2 * (sumR l).2) := by
  have := sumR_append [p] l
  rw [sumR_one] at this
  exact this
theorem sumR_reverse (ws : List (Int × Int)) : sumR ws.reverse = sumR ws := by
  induction ws with
  | nil => rfl
  | cons p l ih =>
    rw [List.reverse_cons, sumR_snoc, ih, sumR_cons]
    simp only [Prod.mk.injEq]
    constructor <;> grind
/-- two least ratios that are as much as one -/
theorem lo_same {n d n' d' N D : Int} (h : Lo n d) (h' : Lo n' d') (hD : 0 < D) (e : n * D = N * d) (e' : n' * D = N * d') : n = n' ∧ d = d' := by
  refine lo_unique h h' ?_
  refine Int.eq_of_mul_eq_mul_right (show D ≠ 0 by omega) ?_
  have s1 : n * d' * D = (n * D) * d' := by grind
  have s2 : n' * d * D = (n' * D) * d := by grind
  rw [s1, s2, e, e']
  grind
theorem sum_ge {n1 d1 n2 d2 n3 d3 : Int} (h1 : 0 < d1) (h2 : 0 < d2) (h3 : 0 < d3) (p1 : 0 ≤ n1) (p2 : 0 ≤ n2) (e : n3 * (d1 * d2) = (n1 * d2 + n2 * d1) * d3) : n2 * d3 ≤ n3 * d2 ∧ n1 * d3 ≤ n3 * d1 := by
  have k1 : 0 ≤ (n1 * d2) * d3 := Int.mul_nonneg (Int.mul_nonneg p1 (by omega)) (by omega)
  have k2 : 0 ≤ (n2 * d1) * d3 := Int.mul_nonneg (Int.mul_nonneg p2 (by omega)) (by omega)
  have s : (n1 * d2 + n2 * d1) * d3 = (n1 * d2) * d3 + (n2 * d1) * d3 := by grind
  have s1 : n3 * (d1 * d2) = (n3 * d2) * d1 := by grind
  have s2 : n3 * (d1 * d2) = (n3 * d1) * d2 := by grind
  have s3 : (n2 * d1) * d3 = (n2 * d3) * d1 := by grind
  have s4 : (n1 * d2) * d3 = (n1 * d3) * d2 := by grind
  exact ⟨Int.le_of_mul_le_mul_right (show (n2 * d3) * d1 ≤ (n3 * d2) * d1 by omega) h1, Int.le_of_mul_le_mul_right (show (n1 * d3) * d2 ≤ (n3 * d1) * d2 by omega) h2⟩
/-- what was added is taken away again -/
theorem sub_back {n1 d1 n2 d2 n3 d3 n4 d4 : Int} (h1 : Lo n1 d1) (h2 : 0 < d2) (h3 : 0 < d3) (h4 : Lo n4 d4) (e : n3 * (d1 * d2) = (n1 * d2 + n2 * d1) * d3) (e' : n4 * (d3 * d2) = (n3 * d2 - n2 * d3) * d4) : n4 = n1 ∧ d4 = d1 := by
  refine lo_unique h4 h1 ?_
  have P := Int.mul_pos h3 h2
  refine Int.eq_of_mul_eq_mul_right (show d3 * d2 ≠ 0 by omega) ?_
  have s1 : n4 * d1 * (d3 * d2) = (n4 * (d3 * d2)) * d1 := by grind
  have s2 : (n3 * d2 - n2 * d3) * d4 * d1 = (n3 * (d1 * d2)) * d4 - n2 * d3 * d4 * d1 := by grind
  rw [s1, e', s2, e]
  grind
theorem add_turn {n1 d1 n2 d2 n d n' d' : Int} (h : Lo n d) (h' : Lo n' d') (hD : 0 < d1 * d2) (e : n * (d2 * d1) = (n2 * d1 + n1 * d2) * d) (e' : n' * (d1 * d2) = (n1 * d2 + n2 * d1) * d') : n = n' ∧ d = d' :=
  lo_same h h' hD (by rw [Int.mul_comm d1 d2, e]; grind) e'
theorem cmpI_nonneg {m n : Int} (h : n ≤ m) : 0 ≤ cmpI m n := by
  rcases Int.lt_or_eq_of_le h with g | g
  · rw [cmpI_gt g]; omega
  · rw [cmpI_eq g.symm]; omega
theorem drop_rev {ws : List (Int × Int)} {i : Nat} (h : i < ws.length) : (ws.drop i).reverse = (ws.drop (i + 1)).reverse ++ [ws.getD i (0, 0)] := by
  rw [List.drop_eq_getElem_cons h, List.reverse_cons, List.getD_eq_getElem?_getD, List.getElem?_eq_getElem h]; rfl
/-- the cells of a slice of pairs, as they are appended -/
theorem RowP.news {W : World} {ad : Addr} {len cap : Nat} {ps : List (Int × Int)} (h : RowP W (some ad) len cap ps) : ∀ j u, (cellsW ps)[j]? = some u → W.cell? (ad.add j) = some u := by
  intro j u hj
  have hlen : (cellsW ps).length = ps.length * 2 := by
    clear h hj
    induction ps with
    | nil => rfl
    | cons p l ih => rw [cellsW, List.length_cons, List.length_cons, ih, List.length_cons]; omega
  have hjl : j < ps.length * 2 := by
    rcases Nat.lt_or_ge j (ps.length * 2) with g | g
    · exact g
    · rw [List.getElem?_eq_none (by omega)] at hj; cases hj
  obtain ⟨b, off, ha, hx, hy⟩ := h.cell (i := j / 2) (by rw [← h.len]; omega)
  obtain rfl : ad = ⟨b, off, none⟩ := by simpa using ha
  have hg := cellsW_get ps (j / 2) (by omega)
  have hadd : (⟨b, off, none⟩ : Addr).add j = ⟨b, off + j, none⟩ := by
    by_cases h0 : j = 0
    · subst h0; simp [Addr.add]
    · simp [Addr.add, h0]
  rw [hadd]
  rcases Nat.mod_two_eq_zero_or_one j with g | g
  · have e : j = j / 2 * 2 := by omega
    rw [e] at hj ⊢
    rw [hg.1] at hj
    rw [← hj, hx]
  · have e : j = j / 2 * 2 + 1 := by omega
    rw [e] at hj ⊢
    rw [hg.2] at hj
    rw [← hj, ← Nat.add_assoc, hy]
theorem cellsW_one (ps : List (Int × Int)) : ∀ u ∈ cellsW ps, u.oneCell' = true := by
  induction ps with
  | nil => intro u hu; cases hu
  | cons p l ih =>
    intro u hu
    rw [cellsW] at hu
    rcases List.mem_cons.mp hu with rfl | hu
    · rfl
    · rcases List.mem_cons.mp hu with rfl | hu
      · rfl
      · exact ih u hu
theorem cellsW_len (ps : List (Int × Int)) : (cellsW ps).length = ps.length * 2 := by
  induction ps with
  | nil => rfl
  | cons p l ih => rw [cellsW, List.length_cons, List.length_cons, ih, List.length_cons]; omega
/-- append of a slice of pairs, nil or not, to a row of one's own -/
theorem wpList_append_pairs {w : World} {ops : Array Oper} {rest : List Oper} {o : Oper} {act : Act} {Q : Exit → Act → World → Prop} (hgd : o.guard = none) (s x : Operand)
    (ho : o.op = .call { callee := .builtin .append, args := #[s, x], argTypes := #[89, 89] }) (base : Nat) (v : Value) (ps0 : List (Int × Int)) (hs : act.eval s = v)
    (hown : w.ownsRow base 32 2 v ps0.length (cellsW ps0)) (A : Option Addr) (m c : Nat) (ps : List (Int × Int)) (hx : act.eval x = .slice A m c) (hr : RowP w A m c ps) (hb : base ≤ w.heap.size) (hsm : ps0.length + m ≤ 1000)
    (h : ∀ v' w', w'.ownsRow base 32 2 v' (ps0 ++ ps).length (cellsW (ps0 ++ ps)) → w.grownBy w' v.ownBlock → wpList Try.prog ops Q rest (act.put o.dst v') w') : wpList Try.prog ops Q (o :: rest) act w := by
  obtain ⟨i0, hi, hz0, hz1, hz2⟩ := info_parts Try.infoW
  rcases A with _ | ad
  · have hc : c = 0 := hr.2.2.2.1 rfl
    have hm : m = 0 := by have := hr.2.1; omega
    subst hc hm
    have hps : ps = [] := List.length_eq_zero_iff.mp hr.len
    subst hps
    refine wpList_append_own_none hgd s x _ ho base _ i0 2 Try.underlying89 hi v _ _ hs hown hx ?_
    exact h v w (by rw [List.append_nil]; exact hown) (World.grownBy.refl w _)
  · refine wpList_append_own _ hgd s x _ ho base _ i0 _ 2 16 Try.underlying89 hi hz0 hz1 hz2 rfl (by decide) v _ _ hs hown ad m c (cellsW ps) hx (by rw [cellsW_len, hr.len]) hr.news (cellsW_one ps) (by unfold maxLen; omega) (by omega) hb ?_
    intro v2 w2 ho2 hg2 _
    refine h v2 w2 ?_ hg2
    rw [List.length_append, cellsW_append, hr.len]
    exact ho2
end Go.Proofs.Ytnlgophgglgneaa
namespace Go.Proofs.Ytnlgophgglgneaa
open Go.RowKit

theorem step_append_pairs {w : World} {ops : Array Oper} {o : Oper} {act : Act} {K : Act → World → Prop} {Q : Exit → Act → World → Prop} {X : Prop} (hgd : o.guard = none) (s x : Operand)
    (ho : o.op = .call { callee := .builtin .append, args := #[s, x], argTypes := #[89, 89] }) (base : Nat) (v : Value) (ps0 : List (Int × Int)) (hs : act.eval s = v)
    (hown : w.ownsRow base 32 2 v ps0.length (cellsW ps0)) (A : Option Addr) (m c : Nat) (ps : List (Int × Int)) (hx : act.eval x = .slice A m c) (hr : RowP w A m c ps) (hb : base ≤ w.heap.size) (hsm : ps0.length + m ≤ 1000)
    (h : ∀ v' w', w'.ownsRow base 32 2 v' (ps0 ++ ps).length (cellsW (ps0 ++ ps)) → w.grownBy w' v.ownBlock → (v'.ownBlock = v.ownBlock ∨ v'.ownBlock = some w.heap.size) → K (act.put o.dst v') w') :
    if Region.wanted o (yielded ops act.tmps) = true then Oper.wp Try.prog o act w K Q else X := by
  have hw : Region.wanted o (yielded ops act.tmps) = true := by simp [Region.wanted, hgd]
  rw [if_pos hw]
  obtain ⟨i0, hi, hz0, hz1, hz2⟩ := info_parts Try.infoW
  rcases A with _ | ad
  · have hc : c = 0 := hr.2.2.2.1 rfl
    have hm : m = 0 := by have := hr.2.1; omega
    subst hc hm
    have hps : ps = [] := List.length_eq_zero_iff.mp hr.len
    subst hps
    have hrun := run_append_owned_none (P := Try.prog) (w := w) base 89 o.type _ i0 2 Try.underlying89 hi v _ _ hown
    unfold Oper.wp
    simp [execOp, ho, resolve, invoke, builtin, hs, hx, hrun, Result.andThen]
    exact h v w (by rw [List.append_nil]; exact hown) (World.grownBy.refl w _) (.inl rfl)
  · obtain ⟨v2, w2, hrun, ho2, hg2, _, hat⟩ := run_append_own_at (P := Try.prog) w base 89 o.type _ i0 _ 2 16 Try.underlying89 hi hz0 hz1 hz2 rfl (by decide) v _ _ hown ad m c (cellsW ps) (by rw [cellsW_len, hr.len]) hr.news (cellsW_one ps) (by unfold maxLen; omega) (by omega) hb
    unfold Oper.wp
    simp [execOp, ho, resolve, invoke, builtin, hs, hx, hrun, Result.andThen]
    refine h v2 w2 ?_ hg2 hat
    rw [List.length_append, cellsW_append, hr.len]
    exact ho2
theorem RowP.apart {W W' : World} {a : Option Addr} {len cap : Nat} {ps : List (Int × Int)} {row : Option Nat} (h : RowP W a len cap ps) (hg : W.grownBy W' row) (hne : ∀ ad : Addr, a = some ad → some ad.block ≠ row) : RowP W' a len cap ps := by
  refine ⟨h.1, h.2.1, h.2.2.1, h.2.2.2.1, fun i hi => ?_⟩
  obtain ⟨b, off, ha, hx, hy⟩ := h.2.2.2.2 i hi
  have e := hg.block b (World.block_lt_of_cell? _ _ hx) (fun e => hne _ ha e)
  exact ⟨b, off, ha, (World.cell?_of_block (w := W) e).trans hx, (World.cell?_of_block (w := W) e).trans hy⟩
theorem own_lit0 (W : World) : (W.alloc (.cells #[] 32)).drew.ownsRow W.heap.size 32 2 (.slice (some ⟨W.heap.size, 0, none⟩) 0 0) ([] : List (Int × Int)).length (cellsW []) :=
  (World.ownsRow_lit (base := W.heap.size) (e := 32) (size := 2) W #[] 0 (Nat.le_refl _) (by unfold maxLen; omega) rfl).drew
theorem own_of_heap {X : World} {base g : Nat} (h : X.heap[g]? = some (.cells #[] 32 (0, 0))) (hb : base ≤ g) : X.ownsRow base 32 2 (.slice (some ⟨g, 0, none⟩) 0 0) ([] : List (Int × Int)).length (cellsW []) :=
  ⟨rfl, .inr ⟨g, 0, #[], rfl, hb, h, Nat.le_refl _, Nat.zero_le _, rfl, rfl⟩⟩
theorem row_of_heap {X : World} {g : Nat} {E P : Int} (h : X.heap[g]? = some (.cells #[.int .i64 E, .int .i64 P] 32 (0, 0))) : RowP X (some ⟨g, 0, none⟩) 1 1 [(E, P)] := by
  refine ⟨rfl, Nat.le_refl _, by omega, (fun e => by cases e), fun i hi => ?_⟩
  obtain rfl : i = 0 := by omega
  exact ⟨g, 0, rfl, block_cell h, block_cell h⟩
theorem al1 (W : World) (o : Obj) : (W.alloc o).heap[W.heap.size]? = some o ∧ Below W.heap.size W (W.alloc o) ∧ (W.alloc o).heap.size = W.heap.size + 1 :=
  ⟨heap_alloc_new _ _, below_box _ _, size_alloc _ _⟩
theorem al2 (W : World) (o o' : Obj) : ((W.alloc o).alloc o').heap[W.heap.size]? = some o ∧ ((W.alloc o).alloc o').heap[W.heap.size + 1]? = some o' ∧ Below W.heap.size W ((W.alloc o).alloc o') ∧ ((W.alloc o).alloc o').heap.size = W.heap.size + 1 + 1 := by
  have s1 := size_alloc W o
  refine ⟨?_, ?_, below_two _ _ _, by rw [size_alloc, s1]⟩
  · rw [Below.heap_alloc _ _ _ (by omega)]; exact heap_alloc_new _ _
  · rw [← s1]; exact heap_alloc_new _ _
theorem al3 (W : World) (o o' o'' : Obj) : (((W.alloc o).alloc o').alloc o'').heap[W.heap.size]? = some o ∧ (((W.alloc o).alloc o').alloc o'').heap[W.heap.size + 1]? = some o' ∧ (((W.alloc o).alloc o').alloc o'').heap[W.heap.size + 1 + 1]? = some o'' ∧ Below W.heap.size W (((W.alloc o).alloc o').alloc o'') ∧ (((W.alloc o).alloc o').alloc o'').heap.size = W.heap.size + 1 + 1 + 1 := by
  obtain ⟨h1, h2, h3, h4⟩ := al2 W o o'
  refine ⟨?_, ?_, ?_, below_three _ _ _ _, by rw [size_alloc, h4]⟩
  · rw [Below.heap_alloc _ _ _ (by omega)]; exact h1
  · rw [Below.heap_alloc _ _ _ (by omega)]; exact h2
  · rw [← h4]; exact heap_alloc_new _ _
theorem below_grow {w0 X u : World} {g c : Nat} (hb : Below w0.heap.size w0 X) (hg : X.grownBy u (Value.slice (some ⟨g, 0, none⟩) 0 c).ownBlock) (h : w0.heap.size ≤ g) : Below w0.heap.size w0 u :=
  hb.grown hg hb.size (fun k hk => by simp [Value.ownBlock] at hk; omega)
theorem below_grow2 {w0 X u : World} {v : Value} (hb : Below w0.heap.size w0 X) (hg : X.grownBy u v.ownBlock) (h : ∀ g, v.ownBlock = some g → w0.heap.size ≤ g) : Below w0.heap.size w0 u := hb.grown hg hb.size h
theorem grow_kept {X u : World} {g b c : Nat} {o : Obj} (hg : X.grownBy u (Value.slice (some ⟨g, 0, none⟩) 0 c).ownBlock) (h : X.heap[b]? = some o) (hne : b ≠ g) : u.heap[b]? = some o :=
  (hg.block b (lt_of_block h) (by simp [Value.ownBlock]; omega)).trans h
theorem own_kept {w u : World} {v : Value} {base b n : Nat} {xs : List Value} {x y : Value} (hg : w.grownBy u v.ownBlock) (h : w.heap[b]? = some (.cells #[x, y] 58 (0, 0))) (ho : w.ownsRow base 32 2 v n xs) : u.heap[b]? = some (.cells #[x, y] 58 (0, 0)) := by
  refine (hg.block b (lt_of_block h) ?_).trans h
  intro e
  rcases ho.2 with ⟨rfl, _⟩ | ⟨g, cap, cur, rfl, _, hh, _⟩
  · simp [Value.ownBlock] at e
  · have : b = g := by simpa [Value.ownBlock] using e
    subst this
    rw [h] at hh
    simp at hh
/-- what the sum with one more leaves: a box with a least ratio in it -/
def StepBox (W0 : World) (N D : Int) (s9 : Value) (wx : World) : Prop :=
  ∃ (gt : Nat) (t1 : Option Addr) (t2 t3 : Nat) (t5 : Option Addr) (t6 t7 : Nat) (n d : Int), s9 = .pointer (some ⟨gt, 0, none⟩) ∧ Box wx 58 gt (.slice t1 t2 t3) (.slice t5 t6 t7) ∧ Rat wx 0 (1 + 9 * 2) (.agg #[.slice t1 t2 t3, .slice t5 t6 t7]) n d ∧ Lo n d ∧ n * D = N * d ∧ Below W0.heap.size W0 wx
theorem box_set {wx : World} {g : Nat} {t1 t5 : Option Addr} {t2 t3 t6 t7 : Nat} {n d : Int} {L : Nat} (h : wx.heap[g]? = some (.cells #[.slice none 0 0, .slice none 0 0] 58 (0, 0))) (hr : Rat wx 0 L (.agg #[.slice t1 t2 t3, .slice t5 t6 t7]) n d) :
    Box ((wx.setCell ⟨g, 0, none⟩ (.slice t1 t2 t3)).setCell ⟨g, 1, none⟩ (.slice t5 t6 t7)) 58 g (.slice t1 t2 t3) (.slice t5 t6 t7) ∧ Rat ((wx.setCell ⟨g, 0, none⟩ (.slice t1 t2 t3)).setCell ⟨g, 1, none⟩ (.slice t5 t6 t7)) 0 L (.agg #[.slice t1 t2 t3, .slice t5 t6 t7]) n d := by
  refine ⟨two_set h, ?_⟩
  obtain ⟨an, ln, cn, zn, ad, ld, cd, zd, e, h1, h2, h3, h4, h5⟩ := hr
  exact ⟨an, ln, cn, zn, ad, ld, cd, zd, e, h1.box h _ _, h2, h3.box h _ _, h4, h5⟩
/-- what was added to a sum -/
theorem step_diff {n1 d1 n2 d2 X1 X2 E P : Int} (x2 : 0 < X2) (e1 : n1 * X2 = X1 * d1) (e2 : n2 * (X2 * P) = (X1 * P + E * X2) * d2) : (n2 * d1 - n1 * d2) * P = E * (d1 * d2) := by
  refine Int.eq_of_mul_eq_mul_right (show X2 ≠ 0 by omega) ?_
  have s1 : (n2 * d1 - n1 * d2) * P * X2 = (n2 * (X2 * P)) * d1 - (n1 * X2) * (d2 * P) := by grind
  rw [s1, e1, e2]
  grind
theorem step_ge {n1 d1 n2 d2 E P : Int} (d10 : 0 < d1) (d20 : 0 < d2) (e0 : 0 ≤ E) (p0 : 0 < P) (e : (n2 * d1 - n1 * d2) * P = E * (d1 * d2)) : n1 * d2 ≤ n2 * d1 ∧ (0 < E → n1 * d2 < n2 * d1) ∧ (E = 0 → n2 * d1 = n1 * d2) := by
  have D := Int.mul_pos d10 d20
  have h0 : 0 ≤ (n2 * d1 - n1 * d2) * P := by rw [e]; exact Int.mul_nonneg e0 (by omega)
  have h1 : 0 ≤ n2 * d1 - n1 * d2 := Int.nonneg_of_mul_nonneg_left h0 p0
  refine ⟨by omega, fun hE => ?_, fun hE => ?_⟩
  · have h2 : 0 < (n2 * d1 - n1 * d2) * P := by rw [e]; exact Int.mul_pos hE D
    have h3 := Int.pos_of_mul_pos_left h2 p0
    omega
  · subst hE
    rw [Int.zero_mul] at e
    rcases Int.mul_eq_zero.mp e with h | h
    · omega
    · omega
theorem step_part {n1 d1 n2 d2 n3 d3 E P : Int} (d10 : 0 < d1) (d20 : 0 < d2) (e : (n2 * d1 - n1 * d2) * P = E * (d1 * d2)) (e' : n3 * (d2 * d1) = (n2 * d1 - n1 * d2) * d3) : n3 * P = E * d3 := by
  have D := Int.mul_pos d20 d10
  refine Int.eq_of_mul_eq_mul_right (show d2 * d1 ≠ 0 by omega) ?_
  have s1 : n3 * P * (d2 * d1) = (n3 * (d2 * d1)) * P := by grind
  have s2 : (n2 * d1 - n1 * d2) * d3 * P = (n2 * d1 - n1 * d2) * P * d3 := by grind
  rw [s1, e', s2, e]
  grind
theorem sum_lt9 {ws : List (Int × Int)} (h : ∀ p ∈ ws, Small p) (hl : ws.length ≤ 9) : 0 ≤ (sumR ws).1 ∧ (sumR ws).1 < 4294967296 ^ 6 ∧ 0 < (sumR ws).2 ∧ (sumR ws).2 < 4294967296 ^ 6 := by
  obtain ⟨a1, a2, a3, a4⟩ := sum_bd ws h
  have p := ipow_le (B := 1048576) (by omega) hl
  have e : (1048576 : Int) ^ 9 = 1532495540865888858358347027150309183618739122183602176 := by decide +kernel
  have e2 : (4294967296 : Int) ^ 6 = 6277101735386680763835789423207666416102355444464034512896 := by decide +kernel
  have m : (ws.length : Int) * 1048576 ^ ws.length ≤ 9 * 1048576 ^ 9 := Int.mul_le_mul (by omega) p (Int.le_of_lt (ipow_pos (by omega) _)) (by omega)
  rw [e2]
  omega
theorem add_none {n1 d1 n d : Int} (h1 : Lo n1 d1) (h : Lo n d) (e : n * (d1 * 1) = (n1 * 1 + 0 * d1) * d) : n = n1 ∧ d = d1 := by
  refine lo_same h h1 h1.2.1 (N := n1) ?_ rfl
  rw [Int.mul_one, Int.mul_one, Int.zero_mul, Int.add_zero] at e
  exact e
theorem add_back {n1 d1 n2 d2 n3 d3 n d : Int} (d10 : 0 < d1) (d30 : 0 < d3) (h2 : Lo n2 d2) (h : Lo n d) (e : n * (d1 * d3) = (n1 * d3 + n3 * d1) * d) (e' : n3 * (d2 * d1) = (n2 * d1 - n1 * d2) * d3) : n = n2 ∧ d = d2 := by
  refine lo_same h h2 (Int.mul_pos d10 d30) e ?_
  have s : (n1 * d3 + n3 * d1) * d2 = n1 * d3 * d2 + n3 * (d2 * d1) := by grind
  rw [s, e']
  grind
end Go.Proofs.Ytnlgophgglgneaa

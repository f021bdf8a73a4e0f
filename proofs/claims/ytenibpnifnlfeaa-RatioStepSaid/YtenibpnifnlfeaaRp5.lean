/-
  What is added to a sum: plain facts; append in a drawn order.
-/
import Derived.Test.YtenibpnifnlfeaaRp4
import Derived.Maps.AppendAt
namespace Go.Proofs.Ytenibpnifnlfeaa
open Go.RowKit

theorem step_append_pairs {w : World} {ops : Array Oper} {o : Oper} {act : Act} {K : Act → World → Prop} {Q : Exit → Act → World → Prop} {X : Prop} (hgd : o.guard = none) (s x : Operand)
    (ho : o.op = .call { callee := .builtin .append, args := #[s, x], argTypes := #[28, 28] }) (base : Nat) (v : Value) (ps0 : List (Int × Int)) (hs : act.eval s = v)
    (hown : w.ownsRow base 51 2 v ps0.length (cellsW ps0)) (A : Option Addr) (m c : Nat) (ps : List (Int × Int)) (hx : act.eval x = .slice A m c) (hr : RowP w A m c ps) (hb : base ≤ w.heap.size) (hsm : ps0.length + m ≤ 1000)
    (h : ∀ v' w', w'.ownsRow base 51 2 v' (ps0 ++ ps).length (cellsW (ps0 ++ ps)) → w.grownBy w' v.ownBlock → (v'.ownBlock = v.ownBlock ∨ v'.ownBlock = some w.heap.size) → K (act.put o.dst v') w') :
    if Region.wanted o (yielded ops act.tmps) = true then Oper.wp Try.prog o act w K Q else X := by
  have hw : Region.wanted o (yielded ops act.tmps) = true := by simp [Region.wanted, hgd]
  rw [if_pos hw]
  obtain ⟨i0, hi, hz0, hz1, hz2⟩ := info_parts Try.infoW
  rcases A with _ | ad
  · have hc : c = 0 := hr.2.2.2.1 rfl
    have hm : m = 0 := by have := hr.2.1; omega
    subst hc hm
    have hps : ps = [] := List.length_eq_zero_iff.mp hr.len
    subst hps
    have hrun := run_append_owned_none (P := Try.prog) (w := w) base 28 o.type _ i0 2 Try.underlying28 hi v _ _ hown
    unfold Oper.wp
    simp [execOp, ho, resolve, invoke, builtin, hs, hx, hrun, Result.andThen]
    exact h v w (by rw [List.append_nil]; exact hown) (World.grownBy.refl w _) (.inl rfl)
  · obtain ⟨v2, w2, hrun, ho2, hg2, _, hat⟩ := run_append_own_at (P := Try.prog) w base 28 o.type _ i0 _ 2 16 Try.underlying28 hi hz0 hz1 hz2 rfl (by decide) v _ _ hown ad m c (cellsW ps) (by rw [cellsW_len, hr.len]) hr.news (cellsW_one ps) (by unfold maxLen; omega) (by omega) hb
    unfold Oper.wp
    simp [execOp, ho, resolve, invoke, builtin, hs, hx, hrun, Result.andThen]
    refine h v2 w2 ?_ hg2 hat
    rw [List.length_append, cellsW_append, hr.len]
    exact ho2
theorem RowP.apart {W W' : World} {a : Option Addr} {len cap : Nat} {ps : List (Int × Int)} {row : Option Nat} (h : RowP W a len cap ps) (hg : W.grownBy W' row) (hne : ∀ ad : Addr, a = some ad → some ad.block ≠ row) : RowP W' a len cap ps := by
  refine ⟨h.1, h.2.1, h.2.2.1, h.2.2.2.1, fun i hi => ?_⟩
  obtain ⟨b, off, ha, hx, hy⟩ := h.2.2.2.2 i hi
  have e := hg.block b (World.block_lt_of_cell? _ _ hx) (fun e => hne _ ha e)
  exact ⟨b, off, ha, (World.cell?_of_block (w := W) e).trans hx, (World.cell?_of_block (w := W) e).trans hy⟩
theorem own_lit0 (W : World) : (W.alloc (.cells #[] 51)).drew.ownsRow W.heap.size 51 2 (.slice (some ⟨W.heap.size, 0, none⟩) 0 0) ([] : List (Int × Int)).length (cellsW []) :=
  (World.ownsRow_lit (base := W.heap.size) (e := 51) (size := 2) W #[] 0 (Nat.le_refl _) (by unfold maxLen; omega) rfl).drew
theorem own_of_heap {X : World} {base g : Nat} (h : X.heap[g]? = some (.cells #[] 51 (0, 0))) (hb : base ≤ g) : X.ownsRow base 51 2 (.slice (some ⟨g, 0, none⟩) 0 0) ([] : List (Int × Int)).length (cellsW []) :=
  ⟨rfl, .inr ⟨g, 0, #[], rfl, hb, h, Nat.le_refl _, Nat.zero_le _, rfl, rfl⟩⟩
theorem row_of_heap {X : World} {g : Nat} {E P : Int} (h : X.heap[g]? = some (.cells #[.int .i64 E, .int .i64 P] 51 (0, 0))) : RowP X (some ⟨g, 0, none⟩) 1 1 [(E, P)] := by
  refine ⟨rfl, Nat.le_refl _, by omega, (fun e => by cases e), fun i hi => ?_⟩
  obtain rfl : i = 0 := by omega
  exact ⟨g, 0, rfl, block_cell h, block_cell h⟩
theorem al1 (W : World) (o : Obj) : (W.alloc o).heap[W.heap.size]? = some o ∧ Below W.heap.size W (W.alloc o) ∧ (W.alloc o).heap.size = W.heap.size + 1 :=
  ⟨heap_alloc_new _ _, below_box _ _, size_alloc _ _⟩
theorem al2 (W : World) (o o' : Obj) : ((W.alloc o).alloc o').heap[W.heap.size]? = some o ∧ ((W.alloc o).alloc o').heap[W.heap.size + 1]? = some o' ∧ Below W.heap.size W ((W.alloc o).alloc o') ∧ ((W.alloc o).alloc o').heap.size = W.heap.size + 1 + 1 := by
  have s1 := size_alloc W o
  refine ⟨?_, ?_, below_two _ _ _, by rw [size_alloc, s1]⟩
  · rw [Below.heap_alloc _ _ _ (by omega)]; exact heap_alloc_new _ _
  · rw [← s1]; exact heap_alloc_new _ _
theorem al3 (W : World) (o o' o'' : Obj) : (((W.alloc o).alloc o').alloc o'').heap[W.heap.size]? = some o ∧ (((W.alloc o).alloc o').alloc o'').heap[W.heap.size + 1]? = some o' ∧ (((W.alloc o).alloc o').alloc o'').heap[W.heap.size + 1 + 1]? = some o'' ∧ Below W.heap.size W (((W.alloc o).alloc o').alloc o'') ∧ (((W.alloc o).alloc o').alloc o'').heap.size = W.heap.size + 1 + 1 + 1 := by
  obtain ⟨h1, h2, h3, h4⟩ := al2 W o o'
  refine ⟨?_, ?_, ?_, below_three _ _ _ _, by rw [size_alloc, h4]⟩
  · rw [Below.heap_alloc _ _ _ (by omega)]; exact h1
  · rw [Below.heap_alloc _ _ _ (by omega)]; exact h2
  · rw [← h4]; exact heap_alloc_new _ _
theorem below_grow {w0 X u : World} {g c : Nat} (hb : Below w0.heap.size w0 X) (hg : X.grownBy u (Value.slice (some ⟨g, 0, none⟩) 0 c).ownBlock) (h : w0.heap.size ≤ g) : Below w0.heap.size w0 u :=
  hb.grown hg hb.size (fun k hk => by simp [Value.ownBlock] at hk; omega)
theorem below_grow2 {w0 X u : World} {v : Value} (hb : Below w0.heap.size w0 X) (hg : X.grownBy u v.ownBlock) (h : ∀ g, v.ownBlock = some g → w0.heap.size ≤ g) : Below w0.heap.size w0 u := hb.grown hg hb.size h
theorem grow_kept {X u : World} {g b c : Nat} {o : Obj} (hg : X.grownBy u (Value.slice (some ⟨g, 0, none⟩) 0 c).ownBlock) (h : X.heap[b]? = some o) (hne : b ≠ g) : u.heap[b]? = some o :=
  (hg.block b (lt_of_block h) (by simp [Value.ownBlock]; omega)).trans h
theorem own_kept {w u : World} {v : Value} {base b n : Nat} {xs : List Value} {x y : Value} (hg : w.grownBy u v.ownBlock) (h : w.heap[b]? = some (.cells #[x, y] 26 (0, 0))) (ho : w.ownsRow base 51 2 v n xs) : u.heap[b]? = some (.cells #[x, y] 26 (0, 0)) := by
  refine (hg.block b (lt_of_block h) ?_).trans h
  intro e
  rcases ho.2 with ⟨rfl, _⟩ | ⟨g, cap, cur, rfl, _, hh, _⟩
  · simp [Value.ownBlock] at e
  · have : b = g := by simpa [Value.ownBlock] using e
    subst this
    rw [h] at hh
    simp at hh
/-- what the sum with one more leaves: a box with a least ratio in it -/
def StepBox (W0 : World) (N D : Int) (s9 : Value) (wx : World) : Prop :=
  ∃ (gt : Nat) (t1 : Option Addr) (t2 t3 : Nat) (t5 : Option Addr) (t6 t7 : Nat) (n d : Int), s9 = .pointer (some ⟨gt, 0, none⟩) ∧ Box wx 26 gt (.slice t1 t2 t3) (.slice t5 t6 t7) ∧ Rat wx 0 (1 + 9 * 2) (.agg #[.slice t1 t2 t3, .slice t5 t6 t7]) n d ∧ Lo n d ∧ n * D = N * d ∧ Below W0.heap.size W0 wx
theorem box_set {wx : World} {g : Nat} {t1 t5 : Option Addr} {t2 t3 t6 t7 : Nat} {n d : Int} {L : Nat} (h : wx.heap[g]? = some (.cells #[.slice none 0 0, .slice none 0 0] 26 (0, 0))) (hr : Rat wx 0 L (.agg #[.slice t1 t2 t3, .slice t5 t6 t7]) n d) :
    Box ((wx.setCell ⟨g, 0, none⟩ (.slice t1 t2 t3)).setCell ⟨g, 1, none⟩ (.slice t5 t6 t7)) 26 g (.slice t1 t2 t3) (.slice t5 t6 t7) ∧ Rat ((wx.setCell ⟨g, 0, none⟩ (.slice t1 t2 t3)).setCell ⟨g, 1, none⟩ (.slice t5 t6 t7)) 0 L (.agg #[.slice t1 t2 t3, .slice t5 t6 t7]) n d := by
  refine ⟨two_set h, ?_⟩
  obtain ⟨an, ln, cn, zn, ad, ld, cd, zd, e, h1, h2, h3, h4, h5⟩ := hr
  exact ⟨an, ln, cn, zn, ad, ld, cd, zd, e, h1.box h _ _, h2, h3.box h _ _, h4, h5⟩
/-- what was added to a sum -/
theorem step_diff {n1 d1 n2 d2 X1 X2 E P : Int} (x2 : 0 < X2) (e1 : n1 * X2 = X1 * d1) (e2 : n2 * (X2 * P) = (X1 * P + E * X2) * d2) : (n2 * d1 - n1 * d2) * P = E * (d1 * d2) := by
  refine Int.eq_of_mul_eq_mul_right (show X2 ≠ 0 by omega) ?_
  have s1 : (n2 * d1 - n1 * d2) * P * X2 = (n2 * (X2 * P)) * d1 - (n1 * X2) * (d2 * P) := by grind
  rw [s1, e1, e2]
  grind
theorem step_ge {n1 d1 n2 d2 E P : Int} (d10 : 0 < d1) (d20 : 0 < d2) (e0 : 0 ≤ E) (p0 : 0 < P) (e : (n2 * d1 - n1 * d2) * P = E * (d1 * d2)) : n1 * d2 ≤ n2 * d1 ∧ (0 < E → n1 * d2 < n2 * d1) ∧ (E = 0 → n2 * d1 = n1 * d2) := by
  have D := Int.mul_pos d10 d20
  have h0 : 0 ≤ (n2 * d1 - n1 * d2) * P := by rw [e]; exact Int.mul_nonneg e0 (by omega)
  have h1 : 0 ≤ n2 * d1 - n1 * d2 := Int.nonneg_of_mul_nonneg_left h0 p0
  refine ⟨by omega, fun hE => ?_, fun hE => ?_⟩
  · have h2 : 0 < (n2 * d1 - n1 * d2) * P := by rw [e]; exact Int.mul_pos hE D
    have h3 := Int.pos_of_mul_pos_left h2 p0
    omega
  · subst hE
    rw [Int.zero_mul] at e
    rcases Int.mul_eq_zero.mp e with h | h
    · omega
    · omega
theorem step_part {n1 d1 n2 d2 n3 d3 E P : Int} (d10 : 0 < d1) (d20 : 0 < d2) (e : (n2 * d1 - n1 * d2) * P = E * (d1 * d2)) (e' : n3 * (d2 * d1) = (n2 * d1 - n1 * d2) * d3) : n3 * P = E * d3 := by
  have D := Int.mul_pos d20 d10
  refine Int.eq_of_mul_eq_mul_right (show d2 * d1 ≠ 0 by omega) ?_
  have s1 : n3 * P * (d2 * d1) = (n3 * (d2 * d1)) * P := by grind
  have s2 : (n2 * d1 - n1 * d2) * d3 * P = (n2 * d1 - n1 * d2) * P * d3 := by grind
  rw [s1, e', s2, e]
  grind
theorem sum_lt9 {ws : List (Int × Int)} (h : ∀ p ∈ ws, Small p) (hl : ws.length ≤ 9) : 0 ≤ (sumR ws).1 ∧ (sumR ws).1 < 4294967296 ^ 6 ∧ 0 < (sumR ws).2 ∧ (sumR ws).2 < 4294967296 ^ 6 := by
  obtain ⟨a1, a2, a3, a4⟩ := sum_bd ws h
  have p := ipow_le (B := 1048576) (by omega) hl
  have e : (1048576 : Int) ^ 9 = 1532495540865888858358347027150309183618739122183602176 := by decide +kernel
  have e2 : (4294967296 : Int) ^ 6 = 6277101735386680763835789423207666416102355444464034512896 := by decide +kernel
  have m : (ws.length : Int) * 1048576 ^ ws.length ≤ 9 * 1048576 ^ 9 := Int.mul_le_mul (by omega) p (Int.le_of_lt (ipow_pos (by omega) _)) (by omega)
  rw [e2]
  omega
theorem add_none {n1 d1 n d : Int} (h1 : Lo n1 d1) (h : Lo n d) (e : n * (d1 * 1) = (n1 * 1 + 0 * d1) * d) : n = n1 ∧ d = d1 := by
  refine lo_same h h1 h1.2.1 (N := n1) ?_ rfl
  rw [Int.mul_one, Int.mul_one, Int.zero_mul, Int.add_zero] at e
  exact e
theorem add_back {n1 d1 n2 d2 n3 d3 n d : Int} (d10 : 0 < d1) (d30 : 0 < d3) (h2 : Lo n2 d2) (h : Lo n d) (e : n * (d1 * d3) = (n1 * d3 + n3 * d1) * d) (e' : n3 * (d2 * d1) = (n2 * d1 - n1 * d2) * d3) : n = n2 ∧ d = d2 := by
  refine lo_same h h2 (Int.mul_pos d10 d30) e ?_
  have s : (n1 * d3 + n3 * d1) * d2 = n1 * d3 * d2 + n3 * (d2 * d1) := by grind
  rw [s, e']
  grind
end Go.Proofs.Ytenibpnifnlfeaa

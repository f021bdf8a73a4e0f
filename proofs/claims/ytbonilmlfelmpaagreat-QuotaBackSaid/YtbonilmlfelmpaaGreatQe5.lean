/-
  QuotaBack: what is told when number 77 joins, asks, settles, and is freed: plain facts.
-/
import Derived.Test.YtbonilmlfelmpaaGreatQe3
namespace Go.Proofs.YtbonilmlfelmpaaGreat
open Go.RowKit

theorem ids_no {hs : List Hq} (h : IdsQ 16 hs) : findH (lst hs) 77 = none := findH_of fun y hy => by
  obtain ⟨q, hq, rfl⟩ := List.mem_map.mp hy
  have := h q hq
  omega
theorem server77 {hs : List Hq} (h : IdsQ 16 hs) : serverQ hs 77 = -2 := by unfold serverQ; rw [ids_no h]
theorem last_at (hs : List Hq) (q : Hq) : (hs ++ [q])[hs.length]? = some q := by simp
theorem last_set (hs : List Hq) (q y : Hq) : (hs ++ [q]).set hs.length y = hs ++ [y] := by simp
theorem last_drop (hs : List Hq) (q : Hq) : (hs ++ [q]).eraseIdx hs.length = hs := by
  rw [List.eraseIdx_append_of_length_le (Nat.le_refl _)]
  simp
theorem find_last {hs : List Hq} {q : Hq} (u : UniqH (lst (hs ++ [q]))) (hq : q.h.id = 77) : findH (lst (hs ++ [q])) 77 = some hs.length := findH_at u (lst_at (last_at hs q)) hq
theorem joinq_ok {S : List Sv} {N D s c : Int} {hs hs1 : List Hq} (h : IdsQ 16 hs) (he : joinQ S N D hs 77 s 1 4 = (c, hs1)) (c0 : c = 0) : hasB S s = true ∧ hs1 = hs ++ [newQ s 77 1 4] ∧ fitsP S N D s (hs ++ [newQ s 77 1 4]) = true := by
  subst c0
  unfold joinQ at he
  split at he
  · cases he
  · rename_i hn
    have hb : hasB S s = true := by
      cases q : hasB S s with
      | true => rfl
      | false => exact absurd (.inr q) hn
    rw [ids_no h] at he
    simp only at he
    split at he
    · rename_i hf
      cases he
      exact ⟨hb, rfl, hf⟩
    · cases he
theorem sumH_swap (l : List Hd) {a b : Hd} (h : holdsV a = holdsV b) : sumH (l ++ [a]) = sumH (l ++ [b]) := by
  unfold sumH wsL
  rw [List.map_append, List.map_append]
  simp only [List.map_cons, List.map_nil, h]
theorem fits_swap {S : List Sv} {N D s : Int} {hs : List Hq} {q y : Hq} (hs0 : q.srv = y.srv) (h : holdsV q.h = holdsV y.h) : fitsP S N D s (hs ++ [q]) = fitsP S N D s (hs ++ [y]) := by
  have e : ∀ x, fitAt S N D x (hs ++ [q]) = fitAt S N D x (hs ++ [y]) := fun x => by
    unfold fitAt fitH
    rw [listAt_append, listAt_append, listAt_one, listAt_one, hs0]
    cases onB S x y.srv with
    | true => simp only [if_true]; rw [sumH_swap _ h]
    | false => rfl
  unfold fitsP
  congr 1
  funext x
  exact e x
theorem askq_ok {S : List Sv} {N D s : Int} {hs : List Hq} (u : UniqH (lst (hs ++ [newQ s 77 1 4]))) (hf : fitsP S N D s (hs ++ [newQ s 77 1 4]) = true) : askQ S N D (hs ++ [newQ s 77 1 4]) 77 1 8 = (0, hs ++ [askQ1 (newQ s 77 1 4) 1 8]) := by
  have hf2 : fitsP S N D (newQ s 77 1 4).srv (hs ++ [askQ1 (newQ s 77 1 4) 1 8]) = true := by
    rw [← hf]
    exact fits_swap rfl (show holdsV (askH (newH 77 1 4) 1 8) = holdsV (newH 77 1 4) by decide)
  unfold askQ
  rw [if_neg (by decide), find_last u rfl]
  simp only [last_at, last_set]
  have hn : ¬ (newQ s 77 1 4).h.asked = true := by show ¬ (newH 77 1 4).asked = true; decide
  rw [if_neg hn, if_pos hf2]
theorem settleq_ok {s : Int} {hs : List Hq} (u : UniqH (lst (hs ++ [askQ1 (newQ s 77 1 4) 1 8]))) : settleQ (hs ++ [askQ1 (newQ s 77 1 4) 1 8]) 77 = (0, hs ++ [newQ s 77 1 8]) := by
  unfold settleQ
  rw [find_last u rfl]
  simp only [last_at, last_set]
  rfl
theorem freeq_ok {s : Int} {hs : List Hq} (u : UniqH (lst (hs ++ [newQ s 77 1 8]))) : freeQ (hs ++ [newQ s 77 1 8]) 77 = (0, hs) := by
  unfold freeQ
  rw [find_last u rfl]
  simp only [last_drop]
theorem settleq_none {hs : List Hq} (h : IdsQ 16 hs) : settleQ hs 77 = (12, hs) := by unfold settleQ; rw [ids_no h]
/-- with 1/8 more on its path -/
theorem held_more {S : List Sv} {s x N' D' : Int} {hs : List Hq} (hx : x ∈ pathV S s) (hb : hasB S x = true) (hv : heldQ S x hs = (N', D')) : heldQ S x (hs ++ [newQ s 77 1 8]) = (N' * 8 + 1 * D', D' * 8) := by
  unfold heldQ at hv ⊢
  rw [if_pos hb] at hv ⊢
  rw [listAt_append, listAt_one, if_pos (show onB S x (newQ s 77 1 8).srv = true from on_is.mpr hx), sumH_append, hv]
  rfl
theorem cmp_back {nk dk nh dh N' D' : Int} (hD : 0 < D') (e1 : nk * D' = N' * dk) (e2 : nh * (D' * 8) = (N' * 8 + 1 * D') * dh) : nh * (dk * 8) = (nk * 8 + 1 * dk) * dh := by
  refine Int.eq_of_mul_eq_mul_right (show D' ≠ 0 by omega) ?_
  grind
/-- a row that lies in those blocks goes on lying there -/
theorem rng_next {b0 : Nat} {w6 W W' : World} (h : Holds (Rng b0 w6.heap.size) w6 W) (hb : Below W.heap.size W W') : Holds (Rng b0 w6.heap.size) w6 W' := h.trans (Holds.of_below hb (fun _ q => Nat.lt_of_lt_of_le q.2 h.size))
/-- a call that makes a ratio, told from a world further back -/
theorem one_from {n d : Int} {w0 wr : World} (h : Below w0.heap.size w0 wr) (n0 : 0 ≤ n) (n1 : n < 4294967296) (d0 : 0 ≤ d) (d1 : d < 4294967296) : Calls Tryz.prog 29 #[.int .u64 n, .int .u64 d] wr fun e w' => ∃ v, e = .returned v ∧ Rat w' 0 1 v n d ∧ Below w0.heap.size w0 w' ∧ Below wr.heap.size wr w' :=
  (one13_any n d wr n0 n1 d0 d1).mono fun _ _ ⟨v, h1, h2, h3⟩ => ⟨v, h1, h2.mono (Nat.zero_le _) (Nat.le_refl _), below_next h h3, h3⟩
theorem plus_from {v u : Value} {n1 d1 n2 d2 : Int} {w0 wr : World} (h : Below w0.heap.size w0 wr) (h1 : Rat wr 0 14 v n1 d1) (h2 : Rat wr 0 1 u n2 d2) : Calls Tryz.prog 28 #[v, u] wr fun e w' => ∃ a1 l1 c1 a2 l2 c2, e = .returned (.agg #[.slice a1 l1 c1, .slice a2 l2 c2]) ∧ Rat w' 0 16 (.agg #[.slice a1 l1 c1, .slice a2 l2 c2]) (n1 * d2 + n2 * d1) (d1 * d2) ∧ Below w0.heap.size w0 w' ∧ Below wr.heap.size wr w' :=
  (rplus_any v u n1 d1 n2 d2 0 0 14 1 wr h1 h2 (by omega)).mono fun _ _ ⟨z, e1, e2, e3⟩ => by
    obtain ⟨a1, l1, c1, z1, a2, l2, c2, z2, rfl, _⟩ := _root_.id e2
    exact ⟨a1, l1, c1, a2, l2, c2, e1, e2.mono (Nat.zero_le _) (Nat.le_refl _), below_next h e3, e3⟩
theorem NumsKept.rat {w w' : World} (h : NumsKept w w') {b L : Nat} {v : Value} {n d : Int} (r : Rat w b L v n d) : Rat w' b L v n d := h _ _ _ _ _ r
theorem box_below {w X : World} {b k : Nat} {x y : Value} (h : Below k w X) (hb : k ≤ b) : Below k w ((X.setCell ⟨b, 0, none⟩ x).setCell ⟨b, 1, none⟩ y) := (h.setCell hb _).setCell hb _
end Go.Proofs.YtbonilmlfelmpaaGreat

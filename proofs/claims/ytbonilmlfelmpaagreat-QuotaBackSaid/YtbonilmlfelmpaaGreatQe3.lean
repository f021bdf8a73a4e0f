/-
  What each place held, kept in an array of nine ratios.
-/
import Derived.Test.YtbonilmlfelmpaaGreatQe0
namespace Go.Proofs.YtbonilmlfelmpaaGreat
open Go.RowKit

/-- eighteen cells -/
def had18 (f : Nat → Value) : Array Value := #[f 0, f 1, f 2, f 3, f 4, f 5, f 6, f 7, f 8, f 9, f 10, f 11, f 12, f 13, f 14, f 15, f 16, f 17]
theorem had_at (f : Nat → Value) {k : Nat} (h : k < 18) : (had18 f)[k]? = some (f k) := by
  match k, h with
  | 0, _ => rfl
  | 1, _ => rfl
  | 2, _ => rfl
  | 3, _ => rfl
  | 4, _ => rfl
  | 5, _ => rfl
  | 6, _ => rfl
  | 7, _ => rfl
  | 8, _ => rfl
  | 9, _ => rfl
  | 10, _ => rfl
  | 11, _ => rfl
  | 12, _ => rfl
  | 13, _ => rfl
  | 14, _ => rfl
  | 15, _ => rfl
  | 16, _ => rfl
  | 17, _ => rfl
  | k + 18, h => omega
theorem had_set (f : Nat → Value) {k : Nat} (h : k < 18) (x : Value) : (had18 f).setIfInBounds k x = had18 (fun j => if j = k then x else f j) := by
  match k, h with
  | 0, _ => rfl
  | 1, _ => rfl
  | 2, _ => rfl
  | 3, _ => rfl
  | 4, _ => rfl
  | 5, _ => rfl
  | 6, _ => rfl
  | 7, _ => rfl
  | 8, _ => rfl
  | 9, _ => rfl
  | 10, _ => rfl
  | 11, _ => rfl
  | 12, _ => rfl
  | 13, _ => rfl
  | 14, _ => rfl
  | 15, _ => rfl
  | 16, _ => rfl
  | 17, _ => rfl
  | k + 18, h => omega
def Slices (f : Nat → Value) : Prop := ∀ j, ∃ a l c, f j = .slice a l c
def f0H : Nat → Value := fun _ => .slice none 0 0
theorem slices0 : Slices f0H := fun _ => ⟨none, 0, 0, rfl⟩
def put18 (f : Nat → Value) (k : Nat) (x y : Value) : Nat → Value := fun i => if i = k * 2 + 1 then y else if i = k * 2 then x else f i
theorem Slices.put {f : Nat → Value} (h : Slices f) (k : Nat) {a b : Option Addr} {l c m d : Nat} : Slices (put18 f k (.slice a l c) (.slice b m d)) := fun i => by
  unfold put18
  split
  · exact ⟨_, _, _, rfl⟩
  · split
    · exact ⟨_, _, _, rfl⟩
    · exact h i
theorem had_nonum {W : World} {T : TypeId} {b : Nat} {f : Nat → Value} (h : Blk W T b (had18 f)) (hs : Slices f) : NoNum W (fun k => k = b) := by
  intro k hk j x hx
  subst hk
  rw [h.cell j] at hx
  rcases Nat.lt_or_ge j 18 with q | q
  · rw [had_at f q] at hx
    obtain ⟨a, l, c, e⟩ := hs j
    rw [e] at hx
    cases hx
  · have : (had18 f)[j]? = none := Array.getElem?_eq_none (by show (had18 f).size ≤ j; exact q)
    rw [this] at hx
    cases hx
/-- a ratio stored there -/
theorem had_store {W : World} {T : TypeId} {b : Nat} {f : Nat → Value} (h : Blk W T b (had18 f)) (hs : Slices f) {k : Nat} (hk : k < 9) (x y : Value) :
    Blk ((W.setCell ⟨b, k * 2, none⟩ x).setCell ⟨b, k * 2 + 1, none⟩ y) T b (had18 (put18 f k x y)) ∧ NumsKept W ((W.setCell ⟨b, k * 2, none⟩ x).setCell ⟨b, k * 2 + 1, none⟩ y) ∧ Keeps (fun k => k = b) W ((W.setCell ⟨b, k * 2, none⟩ x).setCell ⟨b, k * 2 + 1, none⟩ y) := by
  have kp : Keeps (fun k => k = b) W ((W.setCell ⟨b, k * 2, none⟩ x).setCell ⟨b, k * 2 + 1, none⟩ y) := ((Keeps.refl (fun k => k = b) W).set (.inl rfl) _ _).set (.inl rfl) _ _
  refine ⟨?_, NumsKept.of kp (had_nonum h hs), kp⟩
  have h1 := h.setH (k * 2) x
  rw [had_set f (by omega)] at h1
  have h2 := h1.setH (k * 2 + 1) y
  rw [had_set _ (by omega)] at h2
  exact h2
/-- what place k - 1 held, as it was told -/
def HadV (W : World) (f : Nat → Value) (S : List Sv) (hs : List Hq) (k : Nat) : Prop :=
  ∃ an ln cn ad ld cd nk dk, f (k * 2) = .slice an ln cn ∧ f (k * 2 + 1) = .slice ad ld cd ∧ Rat W 0 14 (.agg #[.slice an ln cn, .slice ad ld cd]) nk dk ∧ nk * (heldQ S ((k : Int) - 1) hs).2 = (heldQ S ((k : Int) - 1) hs).1 * dk
theorem HadV.nums {W W' : World} {f : Nat → Value} {S : List Sv} {hs : List Hq} {k : Nat} (h : HadV W f S hs k) (n : NumsKept W W') : HadV W' f S hs k := by
  obtain ⟨an, ln, cn, ad, ld, cd, nk, dk, h1, h2, h3, h4⟩ := h
  exact ⟨an, ln, cn, ad, ld, cd, nk, dk, h1, h2, n _ _ _ _ _ h3, h4⟩
theorem NumsKept.below {W W' : World} (h : Below W.heap.size W W') : NumsKept W W' := fun _ _ _ _ _ q => q.below h
theorem HadV.put {W W' : World} {f : Nat → Value} {S : List Sv} {hs : List Hq} {k : Nat} (h : ∀ j : Nat, j < k → HadV W f S hs j) (n : NumsKept W W') {an ad : Option Addr} {ln cn ld cd : Nat} {nk dk N' D' : Int} (hr : Rat W 0 14 (.agg #[.slice an ln cn, .slice ad ld cd]) nk dk) (hv : heldQ S ((k : Int) - 1) hs = (N', D')) (he : nk * D' = N' * dk) :
    ∀ j : Nat, j < k + 1 → HadV W' (put18 f k (.slice an ln cn) (.slice ad ld cd)) S hs j := by
  intro j hj
  rcases Nat.lt_or_ge j k with q | q
  · obtain ⟨an', ln', cn', ad', ld', cd', nk', dk', h1, h2, h3, h4⟩ := (h j q).nums n
    refine ⟨an', ln', cn', ad', ld', cd', nk', dk', ?_, ?_, h3, h4⟩
    · unfold put18; rw [if_neg (by omega), if_neg (by omega)]; exact h1
    · unfold put18; rw [if_neg (by omega), if_neg (by omega)]; exact h2
  · obtain rfl : j = k := by omega
    refine ⟨an, ln, cn, ad, ld, cd, nk, dk, ?_, ?_, n _ _ _ _ _ hr, ?_⟩
    · unfold put18; rw [if_neg (by omega), if_pos rfl]
    · unfold put18; rw [if_pos rfl]
    · rw [hv]; exact he
theorem box_nonum {W : World} {T : TypeId} {b : Nat} {a c : Option Addr} {l1 c1 l2 c2 : Nat} (h : Blk W T b #[.slice a l1 c1, .slice c l2 c2]) : NoNum W (fun k => k = b) := by
  intro k hk j x hx
  subst hk
  rw [h.cell j] at hx
  match j with
  | 0 => simp at hx
  | 1 => simp at hx
  | j + 2 => simp at hx
/-- a ratio's box written anew -/
theorem box_store {W : World} {T : TypeId} {b : Nat} {a c : Option Addr} {l1 c1 l2 c2 : Nat} (h : Blk W T b #[.slice a l1 c1, .slice c l2 c2]) (x y : Value) :
    Blk ((W.setCell ⟨b, 0, none⟩ x).setCell ⟨b, 1, none⟩ y) T b #[x, y] ∧ NumsKept W ((W.setCell ⟨b, 0, none⟩ x).setCell ⟨b, 1, none⟩ y) ∧ Keeps (fun k => k = b) W ((W.setCell ⟨b, 0, none⟩ x).setCell ⟨b, 1, none⟩ y) := by
  have kp : Keeps (fun k => k = b) W ((W.setCell ⟨b, 0, none⟩ x).setCell ⟨b, 1, none⟩ y) := ((Keeps.refl (fun k => k = b) W).set (.inl rfl) _ _).set (.inl rfl) _ _
  exact ⟨by simpa using (Blk.setH (Blk.setH h 0 x) 1 y), NumsKept.of kp (box_nonum h), kp⟩
theorem cmp_same {a b : Int} (h : a = b) : cmpI a b = 0 := by unfold cmpI; rw [if_neg (by omega), if_neg (by omega)]
theorem held_same {n1 d1 n2 d2 N D : Int} (hD : 0 < D) (e1 : n1 * D = N * d1) (e2 : n2 * D = N * d2) : n1 * d2 = n2 * d1 := by
  refine Int.eq_of_mul_eq_mul_right (show D ≠ 0 by omega) ?_
  grind
/-- what a place holds is within what it may -/
theorem fit_at {S : List Sv} {N D x N' D' : Int} {hs : List Hq} (g : GoodQ S N D hs) (hx : -1 ≤ x ∧ x < (S.length : Int)) (hv : heldQ S x hs = (N', D')) : N' * qD S D x ≤ qN S N x * D' := by
  have h := fit_le.mp (g.fit x hx.1 hx.2)
  unfold heldQ at hv
  rw [if_pos (has_is.mpr hx)] at hv
  rw [hv] at h
  exact h
end Go.Proofs.YtbonilmlfelmpaaGreat

/-
  Who holds what, as plain data: holders, what they hold, what is asked. No function of the program in sight.
  The document's own ledger (regattaref12): what it holds; holds, weights, Held, fits, At: contracts.
  The document's own ledger (regattaref12): weights, Held, fits, At: contracts.
  The document's own ledger (regattaref12): Held, fits, At: contracts.
  The document's own ledger (regattaref12): At: contract.
  The document's own ledger (regattaref12): Join: contract.
-/
import Derived.Test.YtbonilmlfelmpaaGreatFr
import Derived.Test.YtbonilmlfelmpaaGreatRatA
import Derived.Test.YtbonilmlfelmpaaGreatWinA
import Derived.Test.YtbonilmlfelmpaaGreatQu1
import Derived.Test.YtbonilmlfelmpaaGreatWr1
import Derived.Deep.AppendLies
import Derived.Deep.RegionHeld3
import Derived.Deep.DeepCutAuto
import Derived.Deep.AppendSrc
namespace Go.Proofs.YtbonilmlfelmpaaGreat
open Go.RowKit

/-- a holder: its number, its weight, the one that it asked for -/
structure Hd where
  id : Int
  E : Int
  P : Int
  NE : Int
  NP : Int
  asked : Bool
def Hd.cs (h : Hd) : List Value := [.int .i64 h.id, .int .i64 h.E, .int .i64 h.P, .int .i64 h.NE, .int .i64 h.NP, .bool h.asked]
def Hd.v (h : Hd) : Value := .agg #[.int .i64 h.id, .int .i64 h.E, .int .i64 h.P, .int .i64 h.NE, .int .i64 h.NP, .bool h.asked]
theorem wideH (l : List Hd) : Wide 6 (l.map Hd.cs) := fun r hr => by
  obtain ⟨s, _, rfl⟩ := List.mem_map.mp hr
  rfl
theorem oneH (h : Hd) : ∀ u ∈ h.cs, u.oneCell' = true := by
  intro u hu
  simp [Hd.cs] at hu
  rcases hu with rfl | rfl | rfl | rfl | rfl | rfl <;> rfl
theorem onesH (l : List Hd) : ∀ u ∈ (l.map Hd.cs).flatten, u.oneCell' = true := by
  intro u hu
  obtain ⟨r, hr, hu⟩ := List.mem_flatten.mp hu
  obtain ⟨h, _, rfl⟩ := List.mem_map.mp hr
  exact oneH h u hu
theorem flatH_len (l : List Hd) : (l.map Hd.cs).flatten.length = l.length * 6 := by rw [flat_len _ (wideH l), List.length_map]
theorem flatH_at {l : List Hd} {i : Nat} {s : Hd} (h : l[i]? = some s) {k : Nat} (hk : k < 6) : (l.map Hd.cs).flatten[i * 6 + k]? = s.cs[k]? := by
  have hi : i < l.length := by
    rcases Nat.lt_or_ge i l.length with q | q
    · exact q
    · rw [List.getElem?_eq_none q] at h; cases h
  rw [flat_at _ (wideH l) i (by rw [List.length_map]; exact hi) k hk, List.getD_eq_getElem?_getD, List.getElem?_map, h]
  rfl
structure HdAt (W : World) (b o : Nat) (h : Hd) : Prop where
  c0 : W.cell? ⟨b, o, none⟩ = some (.int .i64 h.id)
  c1 : W.cell? ⟨b, o + 1, none⟩ = some (.int .i64 h.E)
  c2 : W.cell? ⟨b, o + 2, none⟩ = some (.int .i64 h.P)
  c3 : W.cell? ⟨b, o + 3, none⟩ = some (.int .i64 h.NE)
  c4 : W.cell? ⟨b, o + 4, none⟩ = some (.int .i64 h.NP)
  c5 : W.cell? ⟨b, o + 5, none⟩ = some (.bool h.asked)
/-- the greater one of both -/
def holdsV (h : Hd) : Int × Int := if h.asked = true ∧ h.E * h.NP < h.NE * h.P then (h.NE, h.NP) else (h.E, h.P)
def wsL (l : List Hd) : List (Int × Int) := l.map holdsV
def sumH (l : List Hd) : Int × Int := sumR (wsL l)
/-- it is not above all -/
def fitH (N D : Int) (l : List Hd) : Bool := decide ((sumH l).1 * D ≤ N * (sumH l).2)
structure GoodH (h : Hd) : Prop where
  now : MayBe h.E h.P
  next : h.asked = true → MayBe h.NE h.NP
theorem holdsV_may {h : Hd} (g : GoodH h) : MayBe (holdsV h).1 (holdsV h).2 := by
  unfold holdsV
  split
  · rename_i q; exact g.next q.1
  · exact g.now
theorem okW_may {p : Int × Int} (h : MayBe p.1 p.2) : OkW p := by
  obtain ⟨h1, h2, h3⟩ := h
  exact ⟨by omega, by omega, by omega, by omega⟩
theorem okWs {l : List Hd} (g : ∀ h ∈ l, GoodH h) : ∀ p ∈ wsL l, OkW p := fun p hp => by
  obtain ⟨h, hh, rfl⟩ := List.mem_map.mp hp
  exact okW_may (holdsV_may (g h hh))
/-- the place of a holder -/
def AtV (l : List Hd) (id : Int) (k : Int) : Prop := (k = -1 ∧ ∀ h ∈ l, h.id ≠ id) ∨ ∃ (j : Nat) (h : Hd), k = j ∧ l[j]? = some h ∧ h.id = id ∧ ∀ x ∈ l.take j, x.id ≠ id
theorem take_more {l : List Hd} {i : Nat} {h : Hd} {id : Int} (hi : l[i]? = some h) (hne : h.id ≠ id) (hb : ∀ x ∈ l.take i, x.id ≠ id) : ∀ x ∈ l.take (i + 1), x.id ≠ id := by
  intro x hx
  rw [List.take_add_one, hi] at hx
  rcases List.mem_append.mp hx with q | q
  · exact hb x q
  · simp at q; subst q; exact hne
end Go.Proofs.YtbonilmlfelmpaaGreat
namespace Go.Proofs.YtbonilmlfelmpaaGreat
open Go.RowKit

/-- a row of holders -/
def RowH (W : World) (a : Option Addr) (len cap : Nat) (hs : List Hd) : Prop := RowF W a len cap 6 (hs.map Hd.cs)
theorem RowH.len {W : World} {a : Option Addr} {len cap : Nat} {hs : List Hd} (h : RowH W a len cap hs) : hs.length = len := by have := h.1; rwa [List.length_map] at this
theorem RowH.below {W W' : World} {a : Option Addr} {len cap : Nat} {hs : List Hd} (h : RowH W a len cap hs) (hb : Below W.heap.size W W') : RowH W' a len cap hs := RowF.below (wideH hs) h hb
theorem RowH.at {W : World} {a : Option Addr} {len cap : Nat} {hs : List Hd} (h : RowH W a len cap hs) {i : Nat} {e : Hd} (he : hs[i]? = some e) : ∃ b off, a = some ⟨b, off, none⟩ ∧ HdAt W b (off + i * 6) e := by
  have hi : i < len := by
    rw [← h.len]
    rcases Nat.lt_or_ge i hs.length with g | g
    · exact g
    · rw [List.getElem?_eq_none g] at he; cases he
  obtain ⟨b, off, ha, hc⟩ := h.2.2.2.2 i hi
  have hg : (hs.map Hd.cs).getD i [] = e.cs := by rw [List.getD_eq_getElem?_getD, List.getElem?_map, he]; rfl
  rw [hg] at hc
  exact ⟨b, off, ha, hc 0 (by omega), hc 1 (by omega), hc 2 (by omega), hc 3 (by omega), hc 4 (by omega), hc 5 (by omega)⟩
theorem prod_fit {a b : Int} (a0 : 0 ≤ a) (a1 : a ≤ 1048576) (b0 : 0 ≤ b) (b1 : b ≤ 1048576) : IntKind.i64.wrap (a * b) = a * b := by
  have h1 := Int.mul_le_mul a1 b1 b0 (show (0 : Int) ≤ 1048576 by omega)
  have h0 := Int.mul_nonneg a0 b0
  exact IntWalk.i64_in _ (by omega)
end Go.Proofs.YtbonilmlfelmpaaGreat
namespace Go.Proofs.YtbonilmlfelmpaaGreat
open Go.RowKit

theorem getW {W : World} {v : Value} {ps : List (Int × Int)} {n : Nat} (h : W.ownsRow n 46 2 v ps.length (cellsW ps)) : ∃ a cap, v = .slice a ps.length cap ∧ RowP W a ps.length cap ps ∧ Fresh n a := rowP_of_owns h
/-- append of one weight to what is owned -/
theorem app_weight {w : World} {ops : Array Oper} {rest : List Oper} {o : Oper} {act : Act} {Q : Exit → Act → World → Prop} (hgd : o.guard = none) (s x : Operand)
    (ho : o.op = .call { callee := .builtin .append, args := #[s, x], argTypes := #[116, 116] }) (base : Nat)
    (v : Value) (ns : List (Int × Int)) (hs : act.eval s = v) (hown : w.ownsRow base 46 2 v ns.length (cellsW ns)) (g : Nat) (p : Int × Int) (hx : act.eval x = .slice (some ⟨g, 0, none⟩) 1 1)
    (hg : w.heap[g]? = some (.cells #[.int .i64 p.1, .int .i64 p.2] 46 (0, 0))) (hb : base ≤ w.heap.size) (hsm : ns.length ≤ 100000)
    (h : ∀ v' w', w'.ownsRow base 46 2 v' (ns ++ [p]).length (cellsW (ns ++ [p])) → w.grownBy w' v.ownBlock → wpList Tryz.prog ops Q rest (act.put o.dst v') w') : wpList Tryz.prog ops Q (o :: rest) act w := by
  obtain ⟨i0, hi, hz0, hz1, hz2⟩ := info_parts Tryz.infoW
  refine wpList_append_own _ hgd s x _ ho base _ i0 _ 2 16 Tryz.underlying116 hi hz0 hz1 hz2 rfl (by decide) v _ _ hs hown ⟨g, 0, none⟩ 1 1 [.int .i64 p.1, .int .i64 p.2] hx rfl (World.news_of_block (cs := #[.int .i64 p.1, .int .i64 p.2]) (t := 46) (fr := (0, 0)) hg) (by simp [Value.oneCell']) (by unfold maxLen; omega) (by omega) hb ?_
  intro v2 w2 ho2 hg2 _
  refine h v2 w2 ?_ hg2
  rw [List.length_append, cellsW_append]
  exact ho2
end Go.Proofs.YtbonilmlfelmpaaGreat
namespace Go.Proofs.YtbonilmlfelmpaaGreat
open Go.RowKit

theorem cmpI_le {m n : Int} : decide (cmpI m n ≤ 0) = decide (m ≤ n) := by
  unfold cmpI
  by_cases h1 : m < n
  · simp [h1]; omega
  · by_cases h2 : n < m
    · simp [h1, h2]
      try omega
    · simp [h1, h2]
      try omega
theorem wsL_len (l : List Hd) : (wsL l).length = l.length := by unfold wsL; rw [List.length_map]
end Go.Proofs.YtbonilmlfelmpaaGreat
namespace Go.Proofs.YtbonilmlfelmpaaGreat
open Go.RowKit

end Go.Proofs.YtbonilmlfelmpaaGreat
namespace Go.Proofs.YtbonilmlfelmpaaGreat
open Go.RowKit

def newH (id E P : Int) : Hd := ⟨id, E, P, 0, 0, false⟩
theorem at_neg {l : List Hd} {id k : Int} (h : AtV l id k) : k < 0 ∧ k = -1 ∧ (∀ x ∈ l, x.id ≠ id) ∨ 0 ≤ k ∧ ∃ (j : Nat) (x : Hd), k = j ∧ l[j]? = some x ∧ x.id = id := by
  rcases h with ⟨rfl, h⟩ | ⟨j, x, rfl, h1, h2, _⟩
  · exact .inl ⟨by omega, rfl, h⟩
  · exact .inr ⟨by omega, j, x, rfl, h1, h2⟩
end Go.Proofs.YtbonilmlfelmpaaGreat

/-
  Who holds what, as plain data: holders, what they hold, what is asked. No function of the program in sight.
  The document's own ledger (regattaref12): what it holds; holds, weights, Held, fits, At: contracts.
  The document's own ledger (regattaref12): weights, Held, fits, At: contracts.
  The document's own ledger (regattaref12): Held, fits, At: contracts.
  The document's own ledger (regattaref12): At: contract.
  The document's own ledger (regattaref12): Join: contract.
-/
import Derived.Test.YtphlkpkbdnddlaaFr
import Derived.Test.YtphlkpkbdnddlaaRatA
import Derived.Test.YtphlkpkbdnddlaaWinA
import Derived.Test.YtphlkpkbdnddlaaQu1
import Derived.Test.YtphlkpkbdnddlaaWr1
import Derived.Deep.AppendLies
import Derived.Deep.RegionHeld3
import Derived.Deep.DeepCutAuto
import Derived.Deep.AppendSrc
namespace Go.Proofs.Ytphlkpkbdnddlaa
open Go.RowKit

/-- a holder: its number, its weight, the one that it asked for -/
structure Hd where
  id : Int
  E : Int
  P : Int
  NE : Int
  NP : Int
  asked : Bool
def Hd.cs (h : Hd) : List Value := [.int .i64 h.id, .int .i64 h.E, .int .i64 h.P, .int .i64 h.NE, .int .i64 h.NP, .bool h.asked]
def Hd.v (h : Hd) : Value := .agg #[.int .i64 h.id, .int .i64 h.E, .int .i64 h.P, .int .i64 h.NE, .int .i64 h.NP, .bool h.asked]
theorem wideH (l : List Hd) : Wide 6 (l.map Hd.cs) := fun r hr => by
  obtain ⟨s, _, rfl⟩ := List.mem_map.mp hr
  rfl
theorem oneH (h : Hd) : ∀ u ∈ h.cs, u.oneCell' = true := by
  intro u hu
  simp [Hd.cs] at hu
  rcases hu with rfl | rfl | rfl | rfl | rfl | rfl <;> rfl
theorem onesH (l : List Hd) : ∀ u ∈ (l.map Hd.cs).flatten, u.oneCell' = true := by
  intro u hu
  obtain ⟨r, hr, hu⟩ := List.mem_flatten.mp hu
  obtain ⟨h, _, rfl⟩ := List.mem_map.mp hr
  exact oneH h u hu
theorem flatH_len (l : List Hd) : (l.map Hd.cs).flatten.length = l.length * 6 := by rw [flat_len _ (wideH l), List.length_map]
theorem flatH_at {l : List Hd} {i : Nat} {s : Hd} (h : l[i]? = some s) {k : Nat} (hk : k < 6) : (l.map Hd.cs).flatten[i * 6 + k]? = s.cs[k]? := by
  have hi : i < l.length := by
    rcases Nat.lt_or_ge i l.length with q | q
    · exact q
    · rw [List.getElem?_eq_none q] at h; cases h
  rw [flat_at _ (wideH l) i (by rw [List.length_map]; exact hi) k hk, List.getD_eq_getElem?_getD, List.getElem?_map, h]
  rfl
structure HdAt (W : World) (b o : Nat) (h : Hd) : Prop where
  c0 : W.cell? ⟨b, o, none⟩ = some (.int .i64 h.id)
  c1 : W.cell? ⟨b, o + 1, none⟩ = some (.int .i64 h.E)
  c2 : W.cell? ⟨b, o + 2, none⟩ = some (.int .i64 h.P)
  c3 : W.cell? ⟨b, o + 3, none⟩ = some (.int .i64 h.NE)
  c4 : W.cell? ⟨b, o + 4, none⟩ = some (.int .i64 h.NP)
  c5 : W.cell? ⟨b, o + 5, none⟩ = some (.bool h.asked)
/-- the greater one of both -/
def holdsV (h : Hd) : Int × Int := if h.asked = true ∧ h.E * h.NP < h.NE * h.P then (h.NE, h.NP) else (h.E, h.P)
def wsL (l : List Hd) : List (Int × Int) := l.map holdsV
def sumH (l : List Hd) : Int × Int := sumR (wsL l)
/-- it is not above all -/
def fitH (N D : Int) (l : List Hd) : Bool := decide ((sumH l).1 * D ≤ N * (sumH l).2)
structure GoodH (h : Hd) : Prop where
  now : MayBe h.E h.P
  next : h.asked = true → MayBe h.NE h.NP
theorem holdsV_may {h : Hd} (g : GoodH h) : MayBe (holdsV h).1 (holdsV h).2 := by
  unfold holdsV
  split
  · rename_i q; exact g.next q.1
  · exact g.now
theorem okW_may {p : Int × Int} (h : MayBe p.1 p.2) : OkW p := by
  obtain ⟨h1, h2, h3⟩ := h
  exact ⟨by omega, by omega, by omega, by omega⟩
theorem okWs {l : List Hd} (g : ∀ h ∈ l, GoodH h) : ∀ p ∈ wsL l, OkW p := fun p hp => by
  obtain ⟨h, hh, rfl⟩ := List.mem_map.mp hp
  exact okW_may (holdsV_may (g h hh))
/-- the place of a holder -/
def AtV (l : List Hd) (id : Int) (k : Int) : Prop := (k = -1 ∧ ∀ h ∈ l, h.id ≠ id) ∨ ∃ (j : Nat) (h : Hd), k = j ∧ l[j]? = some h ∧ h.id = id ∧ ∀ x ∈ l.take j, x.id ≠ id
theorem take_more {l : List Hd} {i : Nat} {h : Hd} {id : Int} (hi : l[i]? = some h) (hne : h.id ≠ id) (hb : ∀ x ∈ l.take i, x.id ≠ id) : ∀ x ∈ l.take (i + 1), x.id ≠ id := by
  intro x hx
  rw [List.take_add_one, hi] at hx
  rcases List.mem_append.mp hx with q | q
  · exact hb x q
  · simp at q; subst q; exact hne
end Go.Proofs.Ytphlkpkbdnddlaa
namespace Go.Proofs.Ytphlkpkbdnddlaa
open Go.RowKit

/-- a row of holders -/
def RowH (W : World) (a : Option Addr) (len cap : Nat) (hs : List Hd) : Prop := RowF W a len cap 6 (hs.map Hd.cs)
theorem RowH.len {W : World} {a : Option Addr} {len cap : Nat} {hs : List Hd} (h : RowH W a len cap hs) : hs.length = len := by have := h.1; rwa [List.length_map] at this
theorem RowH.below {W W' : World} {a : Option Addr} {len cap : Nat} {hs : List Hd} (h : RowH W a len cap hs) (hb : Below W.heap.size W W') : RowH W' a len cap hs := RowF.below (wideH hs) h hb
theorem RowH.at {W : World} {a : Option Addr} {len cap : Nat} {hs : List Hd} (h : RowH W a len cap hs) {i : Nat} {e : Hd} (he : hs[i]? = some e) : ∃ b off, a = some ⟨b, off, none⟩ ∧ HdAt W b (off + i * 6) e := by
  have hi : i < len := by
    rw [← h.len]
    rcases Nat.lt_or_ge i hs.length with g | g
    · exact g
    · rw [List.getElem?_eq_none g] at he; cases he
  obtain ⟨b, off, ha, hc⟩ := h.2.2.2.2 i hi
  have hg : (hs.map Hd.cs).getD i [] = e.cs := by rw [List.getD_eq_getElem?_getD, List.getElem?_map, he]; rfl
  rw [hg] at hc
  exact ⟨b, off, ha, hc 0 (by omega), hc 1 (by omega), hc 2 (by omega), hc 3 (by omega), hc 4 (by omega), hc 5 (by omega)⟩
/-- a queue of holders -/
def QueH (W : World) (v : Value) (l : List Hd) : Prop := QueR W 0 49 6 v l.length (l.map Hd.cs).flatten
theorem QueH.row {W : World} {v : Value} {l : List Hd} (h : QueH W v l) : ∃ a cap, v = .slice a l.length cap ∧ RowH W a l.length cap l := by
  obtain ⟨a, cap, hv, h1, h2, hc⟩ := h.value
  by_cases h0 : 0 < l.length
  · obtain ⟨g, off, rfl, hq⟩ := hc h0
    refine ⟨_, cap, hv, by rw [List.length_map], h1, h2, (fun e => by cases e), fun i hi => ⟨g, off, rfl, fun j hj => ?_⟩⟩
    have hs : l[i]? = some l[i] := List.getElem?_eq_getElem hi
    have := flatH_at hs hj
    have e : (l.map Hd.cs).getD i [] = l[i].cs := by rw [List.getD_eq_getElem?_getD, List.getElem?_map, hs]; rfl
    rw [e]
    have hj2 : l[i].cs[j]? = some l[i].cs[j] := List.getElem?_eq_getElem (by simp [Hd.cs]; omega)
    rw [hj2] at this ⊢
    rw [Nat.add_assoc]
    exact hq _ _ this
  · have hl : l = [] := List.eq_nil_of_length_eq_zero (by omega)
    rcases h.2 with ⟨q, _⟩ | ⟨g, off, cap', cur, q, _, _, q3, q4, _⟩
    · rw [hv] at q
      simp only [Value.slice.injEq] at q
      obtain ⟨rfl, _, rfl⟩ := q
      subst hl
      exact ⟨_, _, hv, rfl, by simp, by omega, (fun _ => rfl), fun i hi => absurd hi (by simp)⟩
    · rw [hv] at q
      simp only [Value.slice.injEq] at q
      obtain ⟨rfl, _, rfl⟩ := q
      subst hl
      exact ⟨_, _, hv, rfl, by simp, h2, (fun e => by cases e), fun i hi => absurd hi (by simp)⟩
/-- the document's ledger at block r: of so much, by value; its holders -/
def RL (W : World) (r : Nat) (F : Nat → Prop) (v : Value) (hs : List Hd) : Prop :=
  ∃ an ln cn ad ld cd u, v = .agg #[.slice an ln cn, .slice ad ld cd] ∧ Blk W 35 r #[.slice an ln cn, .slice ad ld cd, u] ∧ QueH W u hs ∧ u.ownBlock ≠ some r ∧ ∀ k, F k ↔ k = r ∨ u.ownBlock = some k
theorem RL.lies {W : World} {r : Nat} {F : Nat → Prop} {v : Value} {hs : List Hd} (h : RL W r F v hs) : Lies F W := by
  obtain ⟨an, ln, cn, ad, ld, cd, u, _, hb, hq, _, hF⟩ := h
  intro k hk
  rcases (hF k).mp hk with rfl | q
  · exact hb.lt
  · exact (QueR.lt hq k q).2
theorem RL.keeps {W W' : World} {r : Nat} {F G : Nat → Prop} {v : Value} {hs : List Hd} (h : RL W r F v hs) (k : Keeps G W W') (ap : Apart F G) : RL W' r F v hs := by
  obtain ⟨an, ln, cn, ad, ld, cd, u, hv, hb, hq, hn, hF⟩ := h
  exact ⟨an, ln, cn, ad, ld, cd, u, hv, hb.keeps k (ap r ((hF r).mpr (.inl rfl))), QueR.keeps hq k (fun g q => ap g ((hF g).mpr (.inr q))), hn, hF⟩
theorem RL.below {W W' : World} {r : Nat} {F : Nat → Prop} {v : Value} {hs : List Hd} (h : RL W r F v hs) (hb : Below W.heap.size W W') : RL W' r F v hs := h.keeps (G := fun _ => False) (Keeps.of hb) (fun _ _ q => q)

theorem prod_fit {a b : Int} (a0 : 0 ≤ a) (a1 : a ≤ 1048576) (b0 : 0 ≤ b) (b1 : b ≤ 1048576) : IntKind.i64.wrap (a * b) = a * b := by
  have h1 := Int.mul_le_mul a1 b1 b0 (show (0 : Int) ≤ 1048576 by omega)
  have h0 := Int.mul_nonneg a0 b0
  exact IntWalk.i64_in _ (by omega)
set_option maxHeartbeats 1000000 in
theorem r12holds_any (h : Hd) (g : GoodH h) (w : World) (x y : Int) (hxy : holdsV h = (x, y)) : Calls Try.prog 68 #[.agg #[.int .i64 h.id, .int .i64 h.E, .int .i64 h.P, .int .i64 h.NE, .int .i64 h.NP, .bool h.asked]] w fun e w' => e = .returned (.agg #[.int .i64 x, .int .i64 y]) ∧ Below w.heap.size w w' := by
  obtain ⟨id, E, P, NE, NP, asked⟩ := h
  obtain ⟨⟨n1, n2, n3⟩, g2⟩ := g
  simp only at n1 n2 n3 g2
  obtain ⟨W1, hW1⟩ : ∃ W1, w.alloc (.cells #[.int .i64 id, .int .i64 E, .int .i64 P, .int .i64 NE, .int .i64 NP, .bool asked] 49) = W1 := ⟨_, rfl⟩
  have B1 := Lib.hid (show Below w.heap.size w W1 by rw [← hW1]; exact wbox _ _)
  have H1 := Lib.hid (show Blk W1 49 w.heap.size #[.int .i64 id, .int .i64 E, .int .i64 P, .int .i64 NE, .int .i64 NP, .bool asked] by rw [← hW1]; exact Blk.new w _ _)
  obtain ⟨W2, hW2⟩ : ∃ W2, W1.alloc (.cells #[.int .i64 0, .int .i64 0] 39) = W2 := ⟨_, rfl⟩
  have B2 := Lib.hid (show Below w.heap.size w W2 by rw [← hW2]; exact below_next B1.out (wbox _ _))
  have H2 := Lib.hid (show Blk W2 49 w.heap.size #[.int .i64 id, .int .i64 E, .int .i64 P, .int .i64 NE, .int .i64 NP, .bool asked] by rw [← hW2]; exact H1.out.alloc _)
  have X2 := Lib.hid (show Blk W2 39 W1.heap.size #[.int .i64 0, .int .i64 0] by rw [← hW2]; exact Blk.new _ _ _)
  have h0 := H2.out.cell 0; have h1 := H2.out.cell 1; have h2 := H2.out.cell 2; have h3 := H2.out.cell 3; have h4 := H2.out.cell 4; have h5 := H2.out.cell 5
  have x0 := X2.out.cell 0; have x1 := X2.out.cell 1
  have fx : ∀ o, W2.frozen? ⟨W1.heap.size, o, none⟩ = false := fun o => X2.out.free o
  simp at h0 h1 h2 h3 h4 h5 x0 x1
  have sz := X2.out.lt
  have SZ := Lib.hid (show w.heap.size ≤ W1.heap.size from B1.out.size)
  have wp1 : asked = true → IntKind.i64.wrap (NE * P) = NE * P := fun q => prod_fit (by have := g2 q; unfold MayBe at this; omega) (by have := g2 q; unfold MayBe at this; omega) (by omega) (by omega)
  have wp2 : asked = true → IntKind.i64.wrap (E * NP) = E * NP := fun q => prod_fit (by omega) (by omega) (by have := g2 q; unfold MayBe at this; omega) (by have := g2 q; unfold MayBe at this; omega)
  obtain ⟨p1, hp1⟩ : ∃ p, NE * P = p := ⟨_, rfl⟩
  obtain ⟨p2, hp2⟩ : ∃ p, E * NP = p := ⟨_, rfl⟩
  rw [hp1] at wp1
  rw [hp2] at wp2
  unfold holdsV at hxy
  simp only [hp1, hp2] at hxy
  cases asked with
  | false =>
    rw [if_neg (by simp)] at hxy
    obtain ⟨rfl, rfl⟩ := Prod.mk.inj hxy
    clear wp1 wp2 hp1 hp2 hxy g2 n1 n2 n3
    go_enter Try.func68, Try.ntmps68
    go_wp2
    exact bodyPost_ret (v := .agg #[.int .i64 E, .int .i64 P]) (by simp [results, Try.results68, go_sem, x0, x1]) rfl ⟨rfl, (B2.out.setCell SZ.out _).setCell SZ.out _⟩
  | true =>
    have w1 := wp1 rfl
    have w2 := wp2 rfl
    by_cases gt : p2 < p1
    · have d : decide (p2 < p1) = true := decide_eq_true gt
      rw [if_pos ⟨rfl, gt⟩] at hxy
      obtain ⟨rfl, rfl⟩ := Prod.mk.inj hxy
      clear wp1 wp2 hxy g2 n1 n2 n3 gt
      go_enter Try.func68, Try.ntmps68
      go_wp2
      exact bodyPost_ret (v := .agg #[.int .i64 NE, .int .i64 NP]) (by simp [results, Try.results68, go_sem, x0, x1]) rfl ⟨rfl, (B2.out.setCell SZ.out _).setCell SZ.out _⟩
    · have d : decide (p2 < p1) = false := decide_eq_false gt
      rw [if_neg (by simp; omega)] at hxy
      obtain ⟨rfl, rfl⟩ := Prod.mk.inj hxy
      clear wp1 wp2 hxy g2 n1 n2 n3 gt
      go_enter Try.func68, Try.ntmps68
      go_wp2
      exact bodyPost_ret (v := .agg #[.int .i64 E, .int .i64 P]) (by simp [results, Try.results68, go_sem, x0, x1]) rfl ⟨rfl, (B2.out.setCell SZ.out _).setCell SZ.out _⟩
end Go.Proofs.Ytphlkpkbdnddlaa
namespace Go.Proofs.Ytphlkpkbdnddlaa
open Go.RowKit

theorem getW {W : World} {v : Value} {ps : List (Int × Int)} {n : Nat} (h : W.ownsRow n 39 2 v ps.length (cellsW ps)) : ∃ a cap, v = .slice a ps.length cap ∧ RowP W a ps.length cap ps ∧ Fresh n a := rowP_of_owns h
/-- append of one weight to what is owned -/
theorem app_weight {w : World} {ops : Array Oper} {rest : List Oper} {o : Oper} {act : Act} {Q : Exit → Act → World → Prop} (hgd : o.guard = none) (s x : Operand)
    (ho : o.op = .call { callee := .builtin .append, args := #[s, x], argTypes := #[83, 83] }) (base : Nat)
    (v : Value) (ns : List (Int × Int)) (hs : act.eval s = v) (hown : w.ownsRow base 39 2 v ns.length (cellsW ns)) (g : Nat) (p : Int × Int) (hx : act.eval x = .slice (some ⟨g, 0, none⟩) 1 1)
    (hg : w.heap[g]? = some (.cells #[.int .i64 p.1, .int .i64 p.2] 39 (0, 0))) (hb : base ≤ w.heap.size) (hsm : ns.length ≤ 100000)
    (h : ∀ v' w', w'.ownsRow base 39 2 v' (ns ++ [p]).length (cellsW (ns ++ [p])) → w.grownBy w' v.ownBlock → wpList Try.prog ops Q rest (act.put o.dst v') w') : wpList Try.prog ops Q (o :: rest) act w := by
  obtain ⟨i0, hi, hz0, hz1, hz2⟩ := info_parts Try.infoW
  refine wpList_append_own _ hgd s x _ ho base _ i0 _ 2 16 Try.underlying83 hi hz0 hz1 hz2 rfl (by decide) v _ _ hs hown ⟨g, 0, none⟩ 1 1 [.int .i64 p.1, .int .i64 p.2] hx rfl (World.news_of_block (cs := #[.int .i64 p.1, .int .i64 p.2]) (t := 39) (fr := (0, 0)) hg) (by simp [Value.oneCell']) (by unfold maxLen; omega) (by omega) hb ?_
  intro v2 w2 ho2 hg2 _
  refine h v2 w2 ?_ hg2
  rw [List.length_append, cellsW_append]
  exact ho2
set_option maxRecDepth 20000 in
set_option maxHeartbeats 4000000 in
theorem r12weights_any (a : Option Addr) (len cap : Nat) (hs : List Hd) (w : World) (h : RowH w a len cap hs) (g : ∀ x ∈ hs, GoodH x) (hl : len ≤ 1000) :
    Calls Try.prog 50 #[.slice a len cap] w fun e w' => ∃ a' cap', e = .returned (.slice a' len cap') ∧ RowP w' a' len cap' (wsL hs) ∧ Below w.heap.size w w' := by
  have H := Lib.hid h
  have G := Lib.hid g
  have LN := Lib.hid h.len
  have ⟨c1, c2⟩ := RowF.cap_le h
  clear h g
  go_enter Try.func50, Try.ntmps50
  go_wp2
  go_loopw [3, 4] (fun v u wr => ∃ i : Nat, u = .int .i64 i ∧ i ≤ len ∧ wr.ownsRow w.heap.size 39 2 v (wsL (hs.take i)).length (cellsW (wsL (hs.take i))) ∧ Below w.heap.size w wr) (fun _ u _ => len - (intOf u).toNat)
  case atStart => exact ⟨0, rfl, by omega, World.ownsRow_nil _ _ _ _, Below.refl _ _⟩
  case round =>
    obtain ⟨i, rfl, il, hown, hbel⟩ := hrel
    have HO := Lib.hid hown
    have HW := Lib.hid hbel
    have LI := Lib.hid (show (wsL (hs.take i)).length = i by unfold wsL; rw [List.length_map, List.length_take, LN.out]; omega)
    clear hown hbel
    by_cases go : i < len
    · have t1 : decide (i < len) = true := decide_eq_true go
      have t2 : decide ((i : Int) < (len : Int)) = true := decide_eq_true (by omega)
      obtain ⟨x, hx⟩ : ∃ x, hs[i]? = some x := ⟨_, List.getElem?_eq_getElem (by rw [LN.out]; exact go)⟩
      obtain ⟨ba, oa, rfl, hat⟩ := (H.out.below HW.out).at hx
      have GX := Lib.hid (G.out x (List.mem_of_getElem? hx))
      obtain ⟨E, P, hEP⟩ : ∃ E P, holdsV x = (E, P) := ⟨_, _, rfl⟩
      have HX := Lib.hid hEP
      have TK := Lib.hid (show wsL (hs.take (i + 1)) = wsL (hs.take i) ++ [(E, P)] by unfold wsL; rw [List.take_add_one, hx, List.map_append]; simp [hEP])
      have c0 := hat.c0; have c1' := hat.c1; have c2' := hat.c2; have c3 := hat.c3; have c4 := hat.c4; have c5 := hat.c5
      have j1 : (i : Int) < (len : Int) := by omega
      have j2 : 0 ≤ (i : Int) := by omega
      have wi : IntKind.i64.wrap ((i : Int) + 1) = (i : Int) + 1 := IntWalk.i64_in _ (by omega)
      clear hx hat hEP
      go_wp2_with fail
      refine (r12holds_any x GX.out _ E P HX.out).mono ?_
      rintro e w2 ⟨rfl, hb⟩
      have HO := Lib.hid (owns_below HO.out hb)
      have HW := Lib.hid (below_next HW.out hb)
      clear hb c0 c1' c2' c3 c4 c5
      have SZ := Lib.hid HW.out.size
      go_wp2_with (at_builtin; refine app_weight rfl _ _ rfl w.heap.size _ (wsL (hs.take i)) rfl (HO.out.alloc _) w2.heap.size (E, P) rfl (heap_alloc_new w2 _) (by have := SZ.out; simp; omega) (by rw [LI.out]; omega) ?_; intro v2 w3 hown2 hgrow2; have HO2 := Lib.hid hown2; have HG2 := Lib.hid hgrow2; clear hown2 hgrow2)
      have B3 := Lib.hid (show Below w.heap.size w w3 from (HW.out.alloc SZ.out _).grown HG2.out (by have := SZ.out; simp; omega) (fun g hg => (HO.out.lt g hg).1))
      go_wp2
      go_roundw
      case rel => exact ⟨i + 1, by go_num, by omega, by rw [TK.out]; exact HO2.out, B3.out⟩
      case measure => simp [intOf]; omega
    · have t1 : decide (i < len) = false := decide_eq_false go
      have t2 : decide ((i : Int) < (len : Int)) = false := decide_eq_false (by omega)
      have EL := Lib.hid (show hs.take i = hs by rw [List.take_of_length_le (by rw [LN.out]; omega)])
      obtain ⟨a', cap', rfl, hr, _⟩ := getW HO.out
      rw [EL.out] at hr
      have LW := Lib.hid (show (wsL hs).length = len by unfold wsL; rw [List.length_map, LN.out])
      rw [LW.out] at hr
      have HR := Lib.hid hr
      have LE := Lib.hid (show (wsL (hs.take i)).length = len by rw [EL.out, LW.out])
      rw [LE.out]
      clear hr
      go_wp2
      go_ret
      exact ⟨_, _, rfl, HR.out, HW.out⟩
end Go.Proofs.Ytphlkpkbdnddlaa
namespace Go.Proofs.Ytphlkpkbdnddlaa
open Go.RowKit

theorem cmpI_le {m n : Int} : decide (cmpI m n ≤ 0) = decide (m ≤ n) := by
  unfold cmpI
  by_cases h1 : m < n
  · simp [h1]; omega
  · by_cases h2 : n < m
    · simp [h1, h2]
      try omega
    · simp [h1, h2]
      try omega
theorem wsL_len (l : List Hd) : (wsL l).length = l.length := by unfold wsL; rw [List.length_map]
set_option maxHeartbeats 2000000 in
theorem r12held_any (r : Nat) (F : Nat → Prop) (v : Value) (hs : List Hd) (w : World) (h : RL w r F v hs) (g : ∀ x ∈ hs, GoodH x) (hl : hs.length ≤ 20) :
    Calls Try.prog 27 #[.pointer (some ⟨r, 0, none⟩)] w (GivesR w (2 * hs.length + 1) (sumH hs).1 (sumH hs).2) := by
  have G := Lib.hid g
  have HL := Lib.hid hl
  obtain ⟨W1, hW1⟩ : ∃ W1, w.alloc (.cells #[.slice none 0 0, .slice none 0 0] 27) = W1 := ⟨_, rfl⟩
  have B1 := Lib.hid (show Below w.heap.size w W1 by rw [← hW1]; exact wbox _ _)
  have X1 := Lib.hid (show Blk W1 27 w.heap.size #[.slice none 0 0, .slice none 0 0] by rw [← hW1]; exact Blk.new w _ _)
  obtain ⟨an, ln, cn, ad, ld, cd, u, _, hb, hq, _, _⟩ := h.below B1.out
  obtain ⟨a, cap, rfl, hr⟩ := hq.row
  have c2 := hb.cell 2
  simp at c2
  obtain ⟨n, hn⟩ : ∃ n, hs.length = n := ⟨_, rfl⟩
  rw [hn] at c2 hr HL
  have HN := Lib.hid hn
  have R1 := Lib.hid hr
  have GB := Lib.hid (show ∀ (w' : World) (v : Value), Rat w' w.heap.size (2 * n + 1) v (sumH hs).1 (sumH hs).2 → Below w.heap.size w w' → GivesR w (2 * n + 1) (sumH hs).1 (sumH hs).2 (.returned v) w' from fun w' v h1 h2 => ⟨v, rfl, h1, h2⟩)
  rw [hn]
  clear hb hq hr h g hn hl
  go_enter Try.func27, Try.ntmps27
  go_wp2_with fail
  refine (r12weights_any a n cap hs _ R1.out G.out (by have := HL.out; omega)).mono ?_
  rintro e w2 ⟨a2, cap2, rfl, hp, hb⟩
  have P2 := Lib.hid hp
  have B2 := Lib.hid (below_next B1.out hb)
  have X2 := Lib.hid (X1.out.below hb)
  clear hb hp c2
  go_wp2_with fail
  refine (rsum_any a2 n cap2 (wsL hs) _ P2.out (okWs G.out) HL.out).mono ?_
  rintro e w3 ⟨vv, rfl, hr, hb⟩
  have B3 := Lib.hid (below_next B2.out hb)
  have X3 := Lib.hid (X2.out.below hb)
  have F3 := Lib.hid B2.out.size
  obtain ⟨n1, l1, cc1, z1, n2, l2, cc2, z2, rfl, q1, q2, q3, q4, q5, q6, q7, q8⟩ := hr
  have x0 := X3.out.cell 0; have x1 := X3.out.cell 1
  have f0 := X3.out.free 0; have f1 := X3.out.free 1
  simp at x0 x1
  have sz1 := X1.out.lt
  have SZ := Lib.hid (show w.heap.size < w2.heap.size from X2.out.lt)
  have Q1 := Lib.hid q1; have Q2 := Lib.hid q2; have Q3 := Lib.hid q3; have Q4 := Lib.hid q4; have Q7 := Lib.hid q7; have Q8 := Lib.hid q8
  have Q5 := Lib.hid q5; have Q6 := Lib.hid q6
  clear hb q1 q2 q3 q4 q5 q6 q7 q8 sz1
  go_wp2
  have hne : ∀ ad' : Addr, n1 = some ad' → ad'.block ≠ w.heap.size := fun ad' e => by have h1 := Q7.out ad' e; have := SZ.out; omega
  have hne2 : ∀ ad' : Addr, n2 = some ad' → ad'.block ≠ w.heap.size := fun ad' e => by have h1 := Q8.out ad' e; have := SZ.out; omega
  refine bodyPost_ret (v := .agg #[.slice n1 l1 cc1, .slice n2 l2 cc2]) (by simp [results, Try.results27, go_sem, x0, x1]) rfl (GB.out _ _ ⟨n1, l1, cc1, z1, n2, l2, cc2, z2, rfl, ?_, Q2.out, ?_, Q4.out, Q5.out, Q6.out, Q7.out.mono F3.out, Q8.out.mono F3.out⟩ ((B3.out.setCell (Nat.le_refl _) _).setCell (Nat.le_refl _) _))
  · exact (Q1.out.setCell _ _ hne).setCell _ _ hne
  · exact (Q3.out.setCell _ _ hne2).setCell _ _ hne2
set_option maxHeartbeats 2000000 in
theorem r12fits_any (r : Nat) (F : Nat → Prop) (v : Value) (ls : List Hd) (N D : Int) (L b : Nat) (a : Option Addr) (len cap : Nat) (hs : List Hd) (w : World) (h : RL w r F v ls) (hv : Rat w b L v N D) (hr : RowH w a len cap hs) (g : ∀ x ∈ hs, GoodH x) (hl : len ≤ 20) (hL : 2 * len + 1 + L ≤ 50) :
    Calls Try.prog 40 #[.pointer (some ⟨r, 0, none⟩), .slice a len cap] w fun e w' => e = .returned (.bool (fitH N D hs)) ∧ Below w.heap.size w w' := by
  have G := Lib.hid g
  have V := Lib.hid hv
  have R := Lib.hid hr
  have LL := Lib.hid hL
  have HL := Lib.hid hl
  have FV := Lib.hid (show decide (cmpI ((sumH hs).1 * D) (N * (sumH hs).2) ≤ 0) = fitH N D hs from cmpI_le)
  obtain ⟨fb, hfb⟩ : ∃ fb, fitH N D hs = fb := ⟨_, rfl⟩
  rw [hfb] at FV ⊢
  obtain ⟨an, ln, cn, ad, ld, cd, u, rfl, hb, _, _, _⟩ := h
  have K := Lib.hid hb
  clear hb g hv hr hl hL hfb
  go_enter Try.func40, Try.ntmps40
  have KEPT := Lib.hid (show ∀ w' : World, Below w.heap.size w w' → w'.cell? ⟨r, 0, none⟩ = some (.slice an ln cn) ∧ w'.cell? ⟨r, 1, none⟩ = some (.slice ad ld cd) from fun w' h => ⟨(K.out.below h).cell 0, (K.out.below h).cell 1⟩)
  have BB := Lib.hid (show Below w.heap.size w w.drew from (Below.refl w.heap.size w).drew)
  go_upto_region 1 with fail
  go_region_held3 (fun w' => w'.cell? ⟨r, 0, none⟩ = some (.slice an ln cn) ∧ w'.cell? ⟨r, 1, none⟩ = some (.slice ad ld cd))
    (first | with_reducible exact KEPT.out _ BB.out)
    (first
      | (go_at_call 50; (with_reducible refine (r12weights_any a len cap hs _ (R.out.below BB.out) G.out (by have := HL.out; omega)).mono ?_); rintro e w2 ⟨a2, cap2, rfl, hp, hb⟩; have P2 := Lib.hid hp; have BB := Lib.hid (below_next BB.out hb); clear hb hp)
      | (go_at_call 49; (with_reducible refine (rsum_any a2 len cap2 (wsL hs) _ P2.out (okWs G.out) HL.out).mono ?_); rintro e w3 ⟨vv, rfl, hr, hb⟩; have S3 := Lib.hid hr; have BB := Lib.hid (below_next BB.out hb); clear hb hr)
      | (go_at_call 25; (with_reducible refine (rcmp_any _ _ (sumH hs).1 (sumH hs).2 N D _ b (2 * len + 1) L _ S3.out (V.out.below BB.out) LL.out).mono ?_); rintro e w4 ⟨rfl, hb⟩; have BB := Lib.hid (below_next BB.out hb); clear hb))
  all_goals
    rw [FV.out]
    go_wp2
    go_ret
    exact ⟨rfl, BB.out⟩
end Go.Proofs.Ytphlkpkbdnddlaa
namespace Go.Proofs.Ytphlkpkbdnddlaa
open Go.RowKit

set_option maxHeartbeats 2000000 in
theorem r12at_any (r : Nat) (F : Nat → Prop) (v : Value) (hs : List Hd) (id : Int) (w : World) (h : RL w r F v hs) :
    Calls Try.prog 22 #[.pointer (some ⟨r, 0, none⟩), .int .i64 id] w fun e w' => ∃ k, e = .returned (.int .i64 k) ∧ AtV hs id k ∧ w = w' := by
  obtain ⟨an, ln, cn, ad, ld, cd, u, _, hb, hq, _, _⟩ := h
  obtain ⟨a, cap, rfl, hr⟩ := hq.row
  have c2 := hb.cell 2
  simp at c2
  obtain ⟨n, hn⟩ : ∃ n, hs.length = n := ⟨_, rfl⟩
  rw [hn] at c2 hr
  have HN := Lib.hid hn
  have R := Lib.hid hr
  have ⟨c1, c3⟩ := RowF.cap_le hr
  clear hb hq hr hn
  go_enter Try.func22, Try.ntmps22
  go_wp2
  go_loopw [5] (fun u wr => ∃ i : Nat, u = .int .i64 i ∧ i ≤ n ∧ (∀ x ∈ hs.take i, x.id ≠ id) ∧ wr = w) (fun u _ => n - (intOf u).toNat)
  case atStart => exact ⟨0, rfl, by omega, (fun x hx => by simp at hx), rfl⟩
  case round =>
    obtain ⟨i, rfl, il, hne, rfl⟩ := hrel
    have NE := Lib.hid hne
    clear hne
    by_cases go : i < n
    · have t1 : decide (i < n) = true := decide_eq_true go
      have t2 : decide ((i : Int) < (n : Int)) = true := decide_eq_true (by omega)
      obtain ⟨x, hx⟩ : ∃ x, hs[i]? = some x := ⟨_, List.getElem?_eq_getElem (by rw [HN.out]; exact go)⟩
      obtain ⟨ba, oa, rfl, hat⟩ := R.out.at hx
      have c0 := hat.c0
      have j1 : (i : Int) < (n : Int) := by omega
      have j2 : 0 ≤ (i : Int) := by omega
      have wi : IntKind.i64.wrap ((i : Int) + 1) = (i : Int) + 1 := IntWalk.i64_in _ (by omega)
      have HX := Lib.hid hx
      clear hx hat
      by_cases e : x.id = id
      · have e1 : (x.id == id) = true := by simp [e]
        have HE := Lib.hid e
        clear e
        go_wp2
        go_ret
        exact ⟨_, rfl, .inr ⟨i, x, rfl, HX.out, HE.out, NE.out⟩, rfl⟩
      · have e1 : (x.id == id) = false := by simp [e]
        have N2 := Lib.hid (take_more HX.out e NE.out)
        clear e
        go_wp2
        go_roundw
        case rel => exact ⟨i + 1, by go_num, by omega, N2.out, by trivial⟩
        case measure => simp [intOf]; omega
    · have t1 : decide (i < n) = false := decide_eq_false go
      have t2 : decide ((i : Int) < (n : Int)) = false := decide_eq_false (by omega)
      have EL := Lib.hid (show hs.take i = hs by rw [List.take_of_length_le (by rw [HN.out]; omega)])
      rw [EL.out] at NE
      go_wp2
      go_ret
      exact ⟨_, rfl, .inl ⟨rfl, NE.out⟩, rfl⟩
end Go.Proofs.Ytphlkpkbdnddlaa
namespace Go.Proofs.Ytphlkpkbdnddlaa
open Go.RowKit

theorem Try.infoH : (Try.prog.info? 49).map (fun i => (i.zero, i.size, i.bytes)) = some (some (.agg #[.int .i64 0, .int .i64 0, .int .i64 0, .int .i64 0, .int .i64 0, .bool false]), 6, 48) := by kernel_rfl
/-- what is asked, and what is told of it -/
def HStay (w : World) (r : Nat) (F : Nat → Prop) (v : Value) (hs : List Hd) (w' : World) : Prop := ∃ F', RL w' r F' v hs ∧ Moves F F' w w'
theorem RL.stay {w w' : World} {r : Nat} {F : Nat → Prop} {v : Value} {hs : List Hd} (h : RL w r F v hs) (hb : Below w.heap.size w w') : HStay w r F v hs w' := ⟨F, h.below hb, Moves.of hb h.lies⟩
def newH (id E P : Int) : Hd := ⟨id, E, P, 0, 0, false⟩
theorem at_neg {l : List Hd} {id k : Int} (h : AtV l id k) : k < 0 ∧ k = -1 ∧ (∀ x ∈ l, x.id ≠ id) ∨ 0 ≤ k ∧ ∃ (j : Nat) (x : Hd), k = j ∧ l[j]? = some x ∧ x.id = id := by
  rcases h with ⟨rfl, h⟩ | ⟨j, x, rfl, h1, h2, _⟩
  · exact .inl ⟨by omega, rfl, h⟩
  · exact .inr ⟨by omega, j, x, rfl, h1, h2⟩
set_option maxHeartbeats 2000000 in
theorem r12join_arg (r : Nat) (F : Nat → Prop) (v : Value) (hs : List Hd) (id E P : Int) (w : World) (h : RL w r F v hs) (hM : ¬ MayBe E P) :
    Calls Try.prog 24 #[.pointer (some ⟨r, 0, none⟩), .int .i64 id, .agg #[.int .i64 E, .int .i64 P]] w fun e w' => e = .returned (.int .i64 1) ∧ HStay w r F v hs w' := by
  have H := Lib.hid h
  have HM := Lib.hid hM
  clear h hM
  have K := Lib.hid (Blk.new w 39 #[.int .i64 E, .int .i64 P])
  go_enter Try.func24, Try.ntmps24
  go_wp2_with fail
  refine (r4check_any E P _ false ⟨fun h => (by cases h), fun h => absurd h HM.out⟩).mono ?_
  rintro e w1 ⟨rfl, hb⟩
  have B := Lib.hid (below_next (wbox _ _) hb)
  clear hb
  go_wp2
  go_ret
  exact ⟨rfl, H.out.stay B.out⟩
set_option maxHeartbeats 2000000 in
theorem r12join_there (r : Nat) (F : Nat → Prop) (v : Value) (hs : List Hd) (id E P : Int) (w : World) (h : RL w r F v hs) (hM : MayBe E P) (hid : ∃ x ∈ hs, x.id = id) :
    Calls Try.prog 24 #[.pointer (some ⟨r, 0, none⟩), .int .i64 id, .agg #[.int .i64 E, .int .i64 P]] w fun e w' => e = .returned (.int .i64 14) ∧ HStay w r F v hs w' := by
  have H := Lib.hid h
  have HM := Lib.hid hM
  have HI := Lib.hid hid
  clear h hM hid
  go_enter Try.func24, Try.ntmps24
  go_wp2_with fail
  refine (r4check_yes E P _ HM.out).mono ?_
  rintro e w1 ⟨rfl, hb⟩
  have B := Lib.hid (below_next (wbox _ _) hb)
  clear hb
  go_wp2_with fail
  refine (r12at_any r F v hs id _ (H.out.below B.out)).mono ?_
  rintro e w2 ⟨k, rfl, hk, rfl⟩
  rcases at_neg hk with ⟨_, _, hn⟩ | ⟨hp, _⟩
  · obtain ⟨x, hx, e⟩ := HI.out
    exact absurd e (hn x hx)
  · have t : decide (0 ≤ k) = true := decide_eq_true hp
    clear hk
    go_wp2
    go_ret
    exact ⟨rfl, H.out.stay B.out⟩
end Go.Proofs.Ytphlkpkbdnddlaa

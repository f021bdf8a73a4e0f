/-
  The document's own tree (regattaref13): its holders and servers in memory; holds: contract.
  Rows of numbers: one more at the end; two that are the same (regattaref07.Same).
  The document's own tree (regattaref13): Path, on: contracts.
  The document's own tree (regattaref13): held, Held: contracts.
  The document's own tree (regattaref13): At, Held: contracts.
-/
import Derived.Test.YtbonilmlfelmpaaGreatQaA
import Derived.Test.YtbonilmlfelmpaaGreatQu1
import Derived.Test.YtbonilmlfelmpaaGreatWr1
import Derived.Test.YtbonilmlfelmpaaGreatHoB
import Derived.Test.YtbonilmlfelmpaaGreatHoC
import Derived.Deep.AppendLies
import Derived.Deep.AppendSrc
import Derived.Deep.RegionLaw
import Derived.Deep.RegionHeld3
import Derived.Deep.DeepCutAuto
import Derived.Test.YtbonilmlfelmpaaGreatHoA
namespace Go.Proofs.YtbonilmlfelmpaaGreat
open Go.RowKit

abbrev Hq.id (q : Hq) : Int := q.h.id
abbrev Hq.E (q : Hq) : Int := q.h.E
abbrev Hq.P (q : Hq) : Int := q.h.P
abbrev Hq.NE (q : Hq) : Int := q.h.NE
abbrev Hq.NP (q : Hq) : Int := q.h.NP
abbrev Hq.asked (q : Hq) : Bool := q.h.asked
def Hq.cs (q : Hq) : List Value := [.int .i64 q.id, .int .i64 q.srv, .int .i64 q.E, .int .i64 q.P, .int .i64 q.NE, .int .i64 q.NP, .bool q.asked]
theorem wideQ (l : List Hq) : Wide 7 (l.map Hq.cs) := fun r hr => by
  obtain ⟨s, _, rfl⟩ := List.mem_map.mp hr
  rfl
theorem oneQ (h : Hq) : ∀ u ∈ h.cs, u.oneCell' = true := by
  intro u hu
  simp [Hq.cs] at hu
  rcases hu with rfl | rfl | rfl | rfl | rfl | rfl | rfl <;> rfl
theorem onesQ (l : List Hq) : ∀ u ∈ (l.map Hq.cs).flatten, u.oneCell' = true := by
  intro u hu
  obtain ⟨r, hr, hu⟩ := List.mem_flatten.mp hu
  obtain ⟨h, _, rfl⟩ := List.mem_map.mp hr
  exact oneQ h u hu
theorem flatQ_len (l : List Hq) : (l.map Hq.cs).flatten.length = l.length * 7 := by rw [flat_len _ (wideQ l), List.length_map]
theorem flatQ_at {l : List Hq} {i : Nat} {s : Hq} (h : l[i]? = some s) {k : Nat} (hk : k < 7) : (l.map Hq.cs).flatten[i * 7 + k]? = s.cs[k]? := by
  have hi : i < l.length := by
    rcases Nat.lt_or_ge i l.length with q | q
    · exact q
    · rw [List.getElem?_eq_none q] at h; cases h
  rw [flat_at _ (wideQ l) i (by rw [List.length_map]; exact hi) k hk, List.getD_eq_getElem?_getD, List.getElem?_map, h]
  rfl
structure HqAt (W : World) (b o : Nat) (q : Hq) : Prop where
  c0 : W.cell? ⟨b, o, none⟩ = some (.int .i64 q.h.id)
  c1 : W.cell? ⟨b, o + 1, none⟩ = some (.int .i64 q.srv)
  c2 : W.cell? ⟨b, o + 2, none⟩ = some (.int .i64 q.h.E)
  c3 : W.cell? ⟨b, o + 3, none⟩ = some (.int .i64 q.h.P)
  c4 : W.cell? ⟨b, o + 4, none⟩ = some (.int .i64 q.h.NE)
  c5 : W.cell? ⟨b, o + 5, none⟩ = some (.int .i64 q.h.NP)
  c6 : W.cell? ⟨b, o + 6, none⟩ = some (.bool q.h.asked)
/-- a row of holders -/
def RowQ (W : World) (a : Option Addr) (len cap : Nat) (hs : List Hq) : Prop := RowF W a len cap 7 (hs.map Hq.cs)
theorem RowQ.len {W : World} {a : Option Addr} {len cap : Nat} {hs : List Hq} (h : RowQ W a len cap hs) : hs.length = len := by have := h.1; rwa [List.length_map] at this
theorem RowQ.below {W W' : World} {a : Option Addr} {len cap : Nat} {hs : List Hq} (h : RowQ W a len cap hs) (hb : Below W.heap.size W W') : RowQ W' a len cap hs := RowF.below (wideQ hs) h hb
theorem RowQ.at {W : World} {a : Option Addr} {len cap : Nat} {hs : List Hq} (h : RowQ W a len cap hs) {i : Nat} {e : Hq} (he : hs[i]? = some e) : ∃ b off, a = some ⟨b, off, none⟩ ∧ HqAt W b (off + i * 7) e := by
  have hi : i < len := by
    rw [← h.len]
    rcases Nat.lt_or_ge i hs.length with g | g
    · exact g
    · rw [List.getElem?_eq_none g] at he; cases he
  obtain ⟨b, off, ha, hc⟩ := h.2.2.2.2 i hi
  have hg : (hs.map Hq.cs).getD i [] = e.cs := by rw [List.getD_eq_getElem?_getD, List.getElem?_map, he]; rfl
  rw [hg] at hc
  exact ⟨b, off, ha, hc 0 (by omega), hc 1 (by omega), hc 2 (by omega), hc 3 (by omega), hc 4 (by omega), hc 5 (by omega), hc 6 (by omega)⟩
/-- a queue of holders -/
def QueQ (W : World) (v : Value) (l : List Hq) : Prop := QueR W 0 54 7 v l.length (l.map Hq.cs).flatten
theorem QueQ.row {W : World} {v : Value} {l : List Hq} (h : QueQ W v l) : ∃ a cap, v = .slice a l.length cap ∧ RowQ W a l.length cap l := by
  obtain ⟨a, cap, hv, h1, h2, hc⟩ := h.value
  by_cases h0 : 0 < l.length
  · obtain ⟨g, off, rfl, hq⟩ := hc h0
    refine ⟨_, cap, hv, by rw [List.length_map], h1, h2, (fun e => by cases e), fun i hi => ⟨g, off, rfl, fun j hj => ?_⟩⟩
    have hs : l[i]? = some l[i] := List.getElem?_eq_getElem hi
    have := flatQ_at hs hj
    have e : (l.map Hq.cs).getD i [] = l[i].cs := by rw [List.getD_eq_getElem?_getD, List.getElem?_map, hs]; rfl
    rw [e]
    have hj2 : l[i].cs[j]? = some l[i].cs[j] := List.getElem?_eq_getElem (by simp [Hq.cs]; omega)
    rw [hj2] at this ⊢
    rw [Nat.add_assoc]
    exact hq _ _ this
  · have hl : l = [] := List.eq_nil_of_length_eq_zero (by omega)
    rcases h.2 with ⟨q, _⟩ | ⟨g, off, cap', cur, q, _, _, q3, q4, _⟩
    · rw [hv] at q
      simp only [Value.slice.injEq] at q
      obtain ⟨rfl, _, rfl⟩ := q
      subst hl
      exact ⟨_, _, hv, rfl, by simp, by omega, (fun _ => rfl), fun i hi => absurd hi (by simp)⟩
    · rw [hv] at q
      simp only [Value.slice.injEq] at q
      obtain ⟨rfl, _, rfl⟩ := q
      subst hl
      exact ⟨_, _, hv, rfl, by simp, h2, (fun e => by cases e), fun i hi => absurd hi (by simp)⟩
/-- the document's tree at block r: of so much, by value; its servers' row, by value; its holders -/
def RQ (W : World) (r : Nat) (F : Nat → Prop) (v sv : Value) (hs : List Hq) : Prop :=
  ∃ an ln cn ad ld cd sa sl sc u, v = .agg #[.slice an ln cn, .slice ad ld cd] ∧ sv = .slice sa sl sc ∧ Blk W 40 r #[.slice an ln cn, .slice ad ld cd, .slice sa sl sc, u] ∧ QueQ W u hs ∧ u.ownBlock ≠ some r ∧ ∀ k, F k ↔ k = r ∨ u.ownBlock = some k
theorem RQ.lies {W : World} {r : Nat} {F : Nat → Prop} {v sv : Value} {hs : List Hq} (h : RQ W r F v sv hs) : Lies F W := by
  obtain ⟨an, ln, cn, ad, ld, cd, sa, sl, sc, u, _, _, hb, hq, _, hF⟩ := h
  intro k hk
  rcases (hF k).mp hk with rfl | q
  · exact hb.lt
  · exact (QueR.lt hq k q).2
theorem RQ.keeps {W W' : World} {r : Nat} {F G : Nat → Prop} {v sv : Value} {hs : List Hq} (h : RQ W r F v sv hs) (k : Keeps G W W') (ap : Apart F G) : RQ W' r F v sv hs := by
  obtain ⟨an, ln, cn, ad, ld, cd, sa, sl, sc, u, hv, hsv, hb, hq, hn, hF⟩ := h
  exact ⟨an, ln, cn, ad, ld, cd, sa, sl, sc, u, hv, hsv, hb.keeps k (ap r ((hF r).mpr (.inl rfl))), QueR.keeps hq k (fun g q => ap g ((hF g).mpr (.inr q))), hn, hF⟩
theorem RQ.below {W W' : World} {r : Nat} {F : Nat → Prop} {v sv : Value} {hs : List Hq} (h : RQ W r F v sv hs) (hb : Below W.heap.size W W') : RQ W' r F v sv hs := h.keeps (G := fun _ => False) (Keeps.of hb) (fun _ _ q => q)
/-! ### servers in memory -/
def Sv.cs (s : Sv) : List Value := [.int .i64 s.par, .int .i64 s.E, .int .i64 s.P]
theorem wideS (l : List Sv) : Wide 3 (l.map Sv.cs) := fun r hr => by
  obtain ⟨s, _, rfl⟩ := List.mem_map.mp hr
  rfl
structure SvAt (W : World) (b o : Nat) (s : Sv) : Prop where
  c0 : W.cell? ⟨b, o, none⟩ = some (.int .i64 s.par)
  c1 : W.cell? ⟨b, o + 1, none⟩ = some (.int .i64 s.E)
  c2 : W.cell? ⟨b, o + 2, none⟩ = some (.int .i64 s.P)
/-- a row of servers -/
def RowS (W : World) (a : Option Addr) (len cap : Nat) (S : List Sv) : Prop := RowF W a len cap 3 (S.map Sv.cs)
theorem RowS.len {W : World} {a : Option Addr} {len cap : Nat} {S : List Sv} (h : RowS W a len cap S) : S.length = len := by have := h.1; rwa [List.length_map] at this
theorem RowS.below {W W' : World} {a : Option Addr} {len cap : Nat} {S : List Sv} (h : RowS W a len cap S) (hb : Below W.heap.size W W') : RowS W' a len cap S := RowF.below (wideS S) h hb
theorem RowS.keeps {W W' : World} {G : Nat → Prop} {a : Option Addr} {len cap : Nat} {S : List Sv} (h : RowS W a len cap S) (k : Keeps G W W') (hG : ∀ ad : Addr, a = some ad → ¬ G ad.block) : RowS W' a len cap S := RowF.keeps h (wideS S) (by omega) k hG
theorem RowS.at {W : World} {a : Option Addr} {len cap : Nat} {S : List Sv} (h : RowS W a len cap S) {i : Nat} {e : Sv} (he : S[i]? = some e) : ∃ b off, a = some ⟨b, off, none⟩ ∧ SvAt W b (off + i * 3) e := by
  have hi : i < len := by
    rw [← h.len]
    rcases Nat.lt_or_ge i S.length with g | g
    · exact g
    · rw [List.getElem?_eq_none g] at he; cases he
  obtain ⟨b, off, ha, hc⟩ := h.2.2.2.2 i hi
  have hg : (S.map Sv.cs).getD i [] = e.cs := by rw [List.getD_eq_getElem?_getD, List.getElem?_map, he]; rfl
  rw [hg] at hc
  exact ⟨b, off, ha, hc 0 (by omega), hc 1 (by omega), hc 2 (by omega)⟩
set_option maxHeartbeats 1000000 in
theorem r13holds_any (q : Hq) (g : GoodH q.h) (w : World) (x y : Int) (hxy : holdsV q.h = (x, y)) : Calls Tryz.prog 77 #[.agg #[.int .i64 q.h.id, .int .i64 q.srv, .int .i64 q.h.E, .int .i64 q.h.P, .int .i64 q.h.NE, .int .i64 q.h.NP, .bool q.h.asked]] w fun e w' => e = .returned (.agg #[.int .i64 x, .int .i64 y]) ∧ Below w.heap.size w w' := by
  obtain ⟨srv, h⟩ := q
  obtain ⟨id, E, P, NE, NP, asked⟩ := h
  obtain ⟨⟨n1, n2, n3⟩, g2⟩ := g
  simp only at n1 n2 n3 g2
  obtain ⟨W1, hW1⟩ : ∃ W1, w.alloc (.cells #[.int .i64 id, .int .i64 srv, .int .i64 E, .int .i64 P, .int .i64 NE, .int .i64 NP, .bool asked] 54) = W1 := ⟨_, rfl⟩
  have B1 := Lib.hid (show Below w.heap.size w W1 by rw [← hW1]; exact wbox _ _)
  have H1 := Lib.hid (show Blk W1 54 w.heap.size #[.int .i64 id, .int .i64 srv, .int .i64 E, .int .i64 P, .int .i64 NE, .int .i64 NP, .bool asked] by rw [← hW1]; exact Blk.new w _ _)
  obtain ⟨W2, hW2⟩ : ∃ W2, W1.alloc (.cells #[.int .i64 0, .int .i64 0] 46) = W2 := ⟨_, rfl⟩
  have B2 := Lib.hid (show Below w.heap.size w W2 by rw [← hW2]; exact below_next B1.out (wbox _ _))
  have H2 := Lib.hid (show Blk W2 54 w.heap.size #[.int .i64 id, .int .i64 srv, .int .i64 E, .int .i64 P, .int .i64 NE, .int .i64 NP, .bool asked] by rw [← hW2]; exact H1.out.alloc _)
  have X2 := Lib.hid (show Blk W2 46 W1.heap.size #[.int .i64 0, .int .i64 0] by rw [← hW2]; exact Blk.new _ _ _)
  have h0 := H2.out.cell 0; have h1 := H2.out.cell 1; have h2 := H2.out.cell 2; have h3 := H2.out.cell 3; have h4 := H2.out.cell 4; have h5 := H2.out.cell 5; have h6 := H2.out.cell 6
  have x0 := X2.out.cell 0; have x1 := X2.out.cell 1
  have fx : ∀ o, W2.frozen? ⟨W1.heap.size, o, none⟩ = false := fun o => X2.out.free o
  simp at h0 h1 h2 h3 h4 h5 h6 x0 x1
  have sz := X2.out.lt
  have SZ := Lib.hid (show w.heap.size ≤ W1.heap.size from B1.out.size)
  have wp1 : asked = true → IntKind.i64.wrap (NE * P) = NE * P := fun q => prod_fit (by have := g2 q; unfold MayBe at this; omega) (by have := g2 q; unfold MayBe at this; omega) (by omega) (by omega)
  have wp2 : asked = true → IntKind.i64.wrap (E * NP) = E * NP := fun q => prod_fit (by omega) (by omega) (by have := g2 q; unfold MayBe at this; omega) (by have := g2 q; unfold MayBe at this; omega)
  obtain ⟨p1, hp1⟩ : ∃ p, NE * P = p := ⟨_, rfl⟩
  obtain ⟨p2, hp2⟩ : ∃ p, E * NP = p := ⟨_, rfl⟩
  rw [hp1] at wp1
  rw [hp2] at wp2
  unfold holdsV at hxy
  simp only [hp1, hp2] at hxy
  cases asked with
  | false =>
    rw [if_neg (by simp)] at hxy
    obtain ⟨rfl, rfl⟩ := Prod.mk.inj hxy
    clear wp1 wp2 hp1 hp2 hxy g2 n1 n2 n3
    go_enter Tryz.func77, Tryz.ntmps77
    go_wp2
    exact bodyPost_ret (v := .agg #[.int .i64 E, .int .i64 P]) (by simp [results, Tryz.results77, go_sem, x0, x1]) rfl ⟨rfl, (B2.out.setCell SZ.out _).setCell SZ.out _⟩
  | true =>
    have w1 := wp1 rfl
    have w2 := wp2 rfl
    by_cases gt : p2 < p1
    · have d : decide (p2 < p1) = true := decide_eq_true gt
      rw [if_pos ⟨rfl, gt⟩] at hxy
      obtain ⟨rfl, rfl⟩ := Prod.mk.inj hxy
      clear wp1 wp2 hxy g2 n1 n2 n3 gt
      go_enter Tryz.func77, Tryz.ntmps77
      go_wp2
      exact bodyPost_ret (v := .agg #[.int .i64 NE, .int .i64 NP]) (by simp [results, Tryz.results77, go_sem, x0, x1]) rfl ⟨rfl, (B2.out.setCell SZ.out _).setCell SZ.out _⟩
    · have d : decide (p2 < p1) = false := decide_eq_false gt
      rw [if_neg (by simp; omega)] at hxy
      obtain ⟨rfl, rfl⟩ := Prod.mk.inj hxy
      clear wp1 wp2 hxy g2 n1 n2 n3 gt
      go_enter Tryz.func77, Tryz.ntmps77
      go_wp2
      exact bodyPost_ret (v := .agg #[.int .i64 E, .int .i64 P]) (by simp [results, Tryz.results77, go_sem, x0, x1]) rfl ⟨rfl, (B2.out.setCell SZ.out _).setCell SZ.out _⟩
end Go.Proofs.YtbonilmlfelmpaaGreat
namespace Go.Proofs.YtbonilmlfelmpaaGreat
open Go.RowKit

theorem hb_cell {w w2 : World} {p : Addr} {v : Value} (hb : Below w.heap.size w w2) (h : w.cell? p = some v) : w2.cell? p = some v := (hb.cell (World.block_lt_of_cell? _ _ h)).trans h
theorem Tryz.infoI : (Tryz.prog.info? 3).map (fun i => (i.zero, i.size, i.bytes)) = some (some (.int .i64 0), 1, 8) := by kernel_rfl
theorem app_int {w : World} {ops : Array Oper} {rest : List Oper} {o : Oper} {act : Act} {Q : Exit → Act → World → Prop} (hgd : o.guard = none) (s x : Operand)
    (ho : o.op = .call { callee := .builtin .append, args := #[s, x], argTypes := #[22, 22] }) (base : Nat)
    (v : Value) (ns : List Int) (hs : act.eval s = v) (hown : w.ownsRow base 3 1 v ns.length (ns.map (Value.int .i64))) (g : Nat) (e : Int) (hx : act.eval x = .slice (some ⟨g, 0, none⟩) 1 1)
    (hg : w.heap[g]? = some (.cells #[.int .i64 e] 3 (0, 0))) (hb : base ≤ w.heap.size) (hsm : ns.length ≤ 100000)
    (h : ∀ v' w', w'.ownsRow base 3 1 v' (ns ++ [e]).length ((ns ++ [e]).map (Value.int .i64)) → w.grownBy w' v.ownBlock → wpList Tryz.prog ops Q rest (act.put o.dst v') w') : wpList Tryz.prog ops Q (o :: rest) act w := by
  obtain ⟨i0, hi, hz0, hz1, hz2⟩ := info_parts Tryz.infoI
  refine wpList_append_own _ hgd s x _ ho base _ i0 _ 1 8 Tryz.underlying22 hi hz0 hz1 hz2 rfl (by decide) v _ _ hs hown ⟨g, 0, none⟩ 1 1 [.int .i64 e] hx rfl (World.news_of_block (cs := #[.int .i64 e]) (t := 3) (fr := (0, 0)) hg) (by simp [Value.oneCell']) (by unfold maxLen; omega) (by omega) hb ?_
  intro v2 w2 ho2 hg2 _
  refine h v2 w2 ?_ hg2
  rw [List.length_append, List.map_append]
  exact ho2
theorem getI {zs : List Int} {i : Nat} (hi : i < zs.length) : ∃ y, zs.getD i 0 = y ∧ zs.drop i = y :: zs.drop (i + 1) :=
  ⟨zs[i], by rw [List.getD_eq_getElem?_getD, List.getElem?_eq_getElem hi]; rfl, List.drop_eq_getElem_cons hi⟩
set_option maxHeartbeats 2000000 in
/-- of two rows that are the same it tells so -/
theorem r7same_yes (a b : Option Addr) (len ca cb : Nat) (zs : List Int) (w : World) (ha : Row .i64 w a len ca zs) (hb : Row .i64 w b len cb zs) :
    Calls Tryz.prog 17 #[.slice a len ca, .slice b len cb] w fun e w' => e = .returned (.bool true) ∧ Below w.heap.size w w' := by
  have HA := Lib.hid ha
  have HB := Lib.hid hb
  have ⟨c1, c2⟩ := ha.cap_le
  clear ha hb
  go_enter Tryz.func17, Tryz.ntmps17
  go_wp2
  go_loopw [5] (fun u wr => ∃ (i : Nat), u = .int .i64 i ∧ i ≤ len ∧ Below w.heap.size w wr) (fun u _ => len - (intOf u).toNat)
  case atStart => exact ⟨0, rfl, by omega, Below.refl _ _⟩
  case round =>
    obtain ⟨i, rfl, il, hbel⟩ := hrel
    have B := Lib.hid hbel
    clear hbel
    by_cases go : i < len
    · have b1 : decide (i < len) = true := by simp; omega
      have b2 : decide ((i : Int) < (len : Int)) = true := by simp; omega
      obtain ⟨bl, ol, rfl, hat⟩ := HA.out.cell go
      obtain ⟨bo, oo, rfl, hbt⟩ := HB.out.cell go
      obtain ⟨x, hx⟩ : ∃ x, zs.getD i 0 = x := ⟨_, rfl⟩
      rw [hx] at hat hbt
      have XW := Lib.hid hat
      have YW := Lib.hid hbt
      clear hx hat hbt
      have i1 : (i : Int) < (len : Int) := by omega
      have i2 : 0 ≤ (i : Int) := by omega
      go_upto_region 6 with fail
      have KEPT := Lib.hid (show ∀ w' : World, Below w.heap.size w w' → w'.cell? ⟨bl, ol + i, none⟩ = some (.int .i64 x) ∧ w'.cell? ⟨bo, oo + i, none⟩ = some (.int .i64 x) from fun w' h => ⟨hb_cell h XW.out, hb_cell h YW.out⟩)
      have BL := Lib.hid B.out.drew
      go_region_held3 (fun w' => w'.cell? ⟨bl, ol + i, none⟩ = some (.int .i64 x) ∧ w'.cell? ⟨bo, oo + i, none⟩ = some (.int .i64 x))
        (exact KEPT.out _ BL.out)
        (fail)
      all_goals
        go_wp2
        go_roundw
        case rel => exact ⟨i + 1, by go_num, by omega, BL.out⟩
        case measure => simp [intOf]; omega
    · have b1 : decide (i < len) = false := by simp; omega
      have b2 : decide ((i : Int) < (len : Int)) = false := by simp; omega
      go_wp2
      go_ret
      exact ⟨rfl, B.out⟩
end Go.Proofs.YtbonilmlfelmpaaGreat
namespace Go.Proofs.YtbonilmlfelmpaaGreat
open Go.RowKit

/-- the path that is told -/
def pathT (S : List Sv) (s : Int) : List Int := if hasB S s then pathV S s else []
theorem pathT_yes {S : List Sv} {s : Int} (h : -1 ≤ s ∧ s < (S.length : Int)) : pathT S s = pathV S s := if_pos (has_is.mpr h)
theorem pathT_no {S : List Sv} {s : Int} (h : ¬ (-1 ≤ s ∧ s < (S.length : Int))) : pathT S s = [] := if_neg (by rw [has_no h]; simp)
theorem pathT_len {S : List Sv} (g : GoodSv S) (s : Int) : (pathT S s).length ≤ 17 := by
  by_cases h : -1 ≤ s ∧ s < (S.length : Int)
  · rw [pathT_yes h]
    have := path_len g s h.1 h.2
    have := g.len
    omega
  · rw [pathT_no h]; simp
theorem row_nilI {W : World} : Row .i64 W none 0 0 [] := ⟨rfl, by omega, by omega, (fun _ => rfl), (fun i hi => by omega)⟩
set_option maxRecDepth 20000 in
set_option maxHeartbeats 4000000 in
theorem r13path_any (r : Nat) (F : Nat → Prop) (v : Value) (sa : Option Addr) (n sc : Nat) (S : List Sv) (hs : List Hq) (s : Int) (w : World) (h : RQ w r F v (.slice sa n sc) hs) (hS : RowS w sa n sc S) (g : GoodSv S) :
    Calls Tryz.prog 19 #[.pointer (some ⟨r, 0, none⟩), .int .i64 s] w fun e w' => ∃ a len cap, e = .returned (.slice a len cap) ∧ Row .i64 w' a len cap (pathT S s) ∧ Fresh w.heap.size a ∧ Below w.heap.size w w' := by
  obtain ⟨an, ln, cn, ad, ld, cd, sa', sl', sc', u, _, hsv, hb, _, _, _⟩ := h
  cases hsv
  have RS := Lib.hid hS
  have LN := Lib.hid hS.len
  have GS := Lib.hid g
  have ⟨cl1, cl2⟩ := RowF.cap_le hS
  have BK := Lib.hid hb
  have c2 := hb.cell 2
  simp at c2
  clear hb hS
  by_cases hlo : s < -1
  · have t1 : decide (s < -1) = true := decide_eq_true hlo
    rw [pathT_no (by omega)]
    clear hlo
    go_enter Tryz.func19, Tryz.ntmps19
    go_wp2
    go_ret
    exact ⟨none, 0, 0, rfl, row_nilI, Fresh.none, Below.refl _ _⟩
  have t1 : decide (s < -1) = false := decide_eq_false hlo
  by_cases hhi : (n : Int) ≤ s
  · have t2 : decide ((n : Int) ≤ s) = true := decide_eq_true hhi
    rw [pathT_no (by have := LN.out; omega)]
    clear hlo hhi
    go_enter Tryz.func19, Tryz.ntmps19
    go_wp2
    go_ret
    exact ⟨none, 0, 0, rfl, row_nilI, Fresh.none, Below.refl _ _⟩
  have t2 : decide ((n : Int) ≤ s) = false := decide_eq_false hhi
  have HB := Lib.hid (show -1 ≤ s ∧ s < (S.length : Int) by have := LN.out; omega)
  rw [pathT_yes HB.out]
  have PL := Lib.hid (show (pathV S s).length ≤ 17 by have := path_len g s HB.out.1 HB.out.2; have := g.len; have := HB.out; omega)
  clear hlo hhi g
  go_enter Tryz.func19, Tryz.ntmps19
  go_wp2
  go_loopw [5, 6] (fun o u wr => ∃ (pre : List Int) (c : Int), u = .int .i64 c ∧ (-1 ≤ c ∧ c < (S.length : Int)) ∧ pathV S s = pre ++ pathV S c ∧ wr.ownsRow w.heap.size 3 1 o pre.length (pre.map (Value.int .i64)) ∧ Below w.heap.size w wr) (fun _ u _ => (intOf u + 1).toNat)
  case atStart => exact ⟨[], s, rfl, HB.out, rfl, World.ownsRow_nil _ _ _ _, Below.refl _ _⟩
  case round =>
    obtain ⟨pre, c, rfl, hc, hp, hown, hbel⟩ := hrel
    have HC := Lib.hid hc
    have HP := Lib.hid hp
    have HO := Lib.hid hown
    have HW := Lib.hid hbel
    have LP := Lib.hid (show pre.length ≤ 17 by have := congrArg List.length hp; rw [List.length_append] at this; have := PL.out; omega)
    have e2 := (BK.out.below hbel).cell 2
    simp at e2
    rcases place_cases GS.out hc with rfl | ⟨sv, p0, pv, p1, p2, p3⟩
    · have d : decide ((0 : Int) ≤ -1) = false := rfl
      rw [pathV_neg S (s := -1) (by omega)] at hp
      have HP := Lib.hid hp
      clear hc hp hown hbel
      go_wp2_with (at_builtin; refine app_int rfl _ _ rfl w.heap.size _ pre rfl (HO.out.alloc _) _ (-1) rfl (heap_alloc_new _ _) (by have := HW.out.size; simp; omega) (by have := LP.out; omega) ?_; intro v' w' ho hg; have HO2 := Lib.hid ho; have B2 := Lib.hid (show Below w.heap.size w w' from (HW.out.alloc HW.out.size _).grown hg (by have := HW.out.size; simp; omega) (fun k e => (HO.out.lt k e).1)); clear ho hg)
      obtain ⟨a', cap', rfl, hr, hf⟩ := row_of_owns HO2.out
      go_ret
      exact ⟨_, _, _, rfl, by rw [HP.out]; exact hr, hf, B2.out⟩
    · have d : decide ((0 : Int) ≤ c) = true := decide_eq_true p0
      obtain ⟨bs, os, rfl, hat⟩ := (RS.out.below HW.out).at pv
      have k0 := hat.c0
      have HP := Lib.hid (show pathV S s = (pre ++ [c]) ++ pathV S sv.par by rw [hp, pathV_step GS.out p0 pv, List.append_assoc]; rfl)
      have P := Lib.hid (And.intro p1 (And.intro p2 p3))
      have cn : c.toNat < n := by
        rcases Nat.lt_or_ge c.toNat S.length with q | q
        · have := LN.out; omega
        · rw [List.getElem?_eq_none q] at pv; cases pv
      obtain ⟨k, hk⟩ : ∃ k : Nat, c.toNat = k := ⟨_, rfl⟩
      obtain rfl : c = (k : Int) := by omega
      have hk2 : k < n := by omega
      have j1 : (k : Int) < (n : Int) := by omega
      have j2 : 0 ≤ (k : Int) := by omega
      simp only [Int.toNat_natCast] at k0 pv
      have PV := Lib.hid pv
      clear hc hp hown hbel pv p1 p2 p3 cn hk
      go_wp2_with (at_builtin; refine app_int rfl _ _ rfl w.heap.size _ pre rfl (HO.out.alloc _) _ (k : Int) rfl (heap_alloc_new _ _) (by have := HW.out.size; simp; omega) (by have := LP.out; omega) ?_; intro v' w' ho hg; have HO2 := Lib.hid ho; have B2 := Lib.hid (show Below w.heap.size w w' from (HW.out.alloc HW.out.size _).grown hg (by have := HW.out.size; simp; omega) (fun k e => (HO.out.lt k e).1)); have e3 := (BK.out.below B2.out).cell 2; simp at e3; obtain ⟨bs', os', he', hat'⟩ := (RS.out.below B2.out).at (show S[k]? = some sv from PV.out); cases he'; have k1 := hat'.c0; clear ho hg hat')
      obtain ⟨a', cap', rfl, _, _⟩ := row_of_owns HO2.out
      go_roundw
      case rel => exact ⟨pre ++ [(k : Int)], sv.par, rfl, ⟨P.out.1, P.out.2.2⟩, HP.out, HO2.out, B2.out⟩
      case measure => have := P.out; simp [intOf]; omega
set_option maxHeartbeats 2000000 in
theorem r13on_any (r : Nat) (F : Nat → Prop) (v : Value) (sa : Option Addr) (n sc : Nat) (S : List Sv) (hs : List Hq) (x s : Int) (w : World) (h : RQ w r F v (.slice sa n sc) hs) (hS : RowS w sa n sc S) (g : GoodSv S) (hsv : hasB S s = true) (t : Bool) (ht : onB S x s = t) :
    Calls Tryz.prog 76 #[.pointer (some ⟨r, 0, none⟩), .int .i64 x, .int .i64 s] w fun e w' => e = .returned (.bool t) ∧ Below w.heap.size w w' := by
  have GS := Lib.hid g
  have H := Lib.hid h
  have RS := Lib.hid hS
  have HT := Lib.hid (show (x ∈ pathT S s → t = true) ∧ (x ∉ pathT S s → t = false) by
    unfold pathT
    rw [hsv, if_pos rfl, ← ht]
    exact ⟨fun q => on_is.mpr q, fun q => decide_eq_false q⟩)
  clear g h hS hsv ht
  go_enter Tryz.func76, Tryz.ntmps76
  go_wp2_with fail
  refine (r13path_any r F v sa n sc S hs s _ H.out RS.out GS.out).mono ?_
  rintro e w1 ⟨a, len, cap, rfl, hr, _, hb⟩
  have R := Lib.hid hr
  have B := Lib.hid hb
  have ⟨c1, c3⟩ := hr.cap_le
  obtain ⟨p, hp⟩ : ∃ p, pathT S s = p := ⟨_, rfl⟩
  rw [hp] at R HT
  have LP := Lib.hid R.out.len
  clear hr hb hp
  go_wp2
  go_loopw [8] (fun u wr => ∃ i : Nat, u = .int .i64 i ∧ i ≤ len ∧ (∀ y ∈ p.take i, y ≠ x) ∧ wr = w1) (fun u _ => len - (intOf u).toNat)
  case atStart => exact ⟨0, rfl, by omega, (fun y hy => by simp at hy), rfl⟩
  case round =>
    obtain ⟨i, rfl, il, hne, rfl⟩ := hrel
    have NE := Lib.hid hne
    clear hne
    by_cases go : i < len
    · have t1 : decide (i < len) = true := decide_eq_true go
      have t2 : decide ((i : Int) < (len : Int)) = true := decide_eq_true (by omega)
      obtain ⟨ba, oa, rfl, hat⟩ := R.out.cell go
      have hpi : p[i]? = some (p.getD i 0) := by
        have hi : i < p.length := by rw [LP.out]; exact go
        rw [List.getD_eq_getElem?_getD, List.getElem?_eq_getElem hi]
        rfl
      obtain ⟨y, hy⟩ : ∃ y, p.getD i 0 = y := ⟨_, rfl⟩
      rw [hy] at hat hpi
      have j1 : (i : Int) < (len : Int) := by omega
      have j2 : 0 ≤ (i : Int) := by omega
      have wi : IntKind.i64.wrap ((i : Int) + 1) = (i : Int) + 1 := IntWalk.i64_in _ (by omega)
      have PI := Lib.hid hpi
      clear hy hpi
      by_cases e : y = x
      · have e1 : (y == x) = true := by simp [e]
        have TT := Lib.hid (HT.out.1 (by subst e; exact List.mem_of_getElem? PI.out))
        clear e
        go_wp2
        go_ret
        exact ⟨by rw [TT.out]; rfl, B.out⟩
      · have e1 : (y == x) = false := by simp [e]
        have N2 := Lib.hid (show ∀ z ∈ p.take (i + 1), z ≠ x from fun z hz => by
          rw [List.take_add_one, PI.out] at hz
          rcases List.mem_append.mp hz with q | q
          · exact NE.out z q
          · simp at q; subst q; exact e)
        clear e
        go_wp2
        go_roundw
        case rel => exact ⟨i + 1, by go_num, by omega, N2.out, by trivial⟩
        case measure => simp [intOf]; omega
    · have t1 : decide (i < len) = false := decide_eq_false go
      have t2 : decide ((i : Int) < (len : Int)) = false := decide_eq_false (by omega)
      have EL := Lib.hid (show p.take i = p by rw [List.take_of_length_le (by rw [LP.out]; omega)])
      have FF := Lib.hid (HT.out.2 (fun q => by have := NE.out; rw [EL.out] at this; exact this x q rfl))
      go_wp2
      go_ret
      exact ⟨by rw [FF.out]; rfl, B.out⟩
end Go.Proofs.YtbonilmlfelmpaaGreat
namespace Go.Proofs.YtbonilmlfelmpaaGreat
open Go.RowKit

theorem listAt_take {S : List Sv} {x : Int} {hs : List Hq} {i : Nat} {q : Hq} (h : hs[i]? = some q) : wsL (listAt S x (hs.take (i + 1))) = wsL (listAt S x (hs.take i)) ++ (if onB S x q.srv then [holdsV q.h] else []) := by
  rw [List.take_add_one, h, Option.toList_some, listAt_append, listAt_one]
  unfold wsL
  rw [List.map_append]
  split <;> rfl
set_option maxRecDepth 20000 in
set_option maxHeartbeats 4000000 in
theorem r13held_any (r : Nat) (F : Nat → Prop) (v : Value) (sa : Option Addr) (n sc : Nat) (S : List Sv) (ls : List Hq) (a : Option Addr) (len cap : Nat) (hs : List Hq) (x : Int) (w : World) (h : RQ w r F v (.slice sa n sc) ls) (hS : RowS w sa n sc S) (g : GoodSv S) (hr : RowQ w a len cap hs) (gd : ∀ q ∈ hs, GoodH q.h) (hsv : ∀ q ∈ hs, hasB S q.srv = true) (hl : len ≤ 20) :
    Calls Tryz.prog 58 #[.pointer (some ⟨r, 0, none⟩), .int .i64 x, .slice a len cap] w (GivesR w (2 * len + 1) (sumH (listAt S x hs)).1 (sumH (listAt S x hs)).2) := by
  obtain ⟨W1, hW1⟩ : ∃ W1, w.alloc (.cells #[.slice none 0 0, .slice none 0 0] 35) = W1 := ⟨_, rfl⟩
  have B1 := Lib.hid (show Below w.heap.size w W1 by rw [← hW1]; exact wbox _ _)
  have X1 := Lib.hid (show Blk W1 35 w.heap.size #[.slice none 0 0, .slice none 0 0] by rw [← hW1]; exact Blk.new w _ _)
  have H := Lib.hid (h.below B1.out)
  have RS := Lib.hid (hS.below B1.out)
  have GS := Lib.hid g
  have R := Lib.hid (hr.below B1.out)
  have G := Lib.hid gd
  have SV := Lib.hid hsv
  have HL := Lib.hid hl
  have LN := Lib.hid hr.len
  have ⟨c1, c2⟩ := RowF.cap_le hr
  have GB := Lib.hid (show ∀ (w' : World) (v : Value), Rat w' w.heap.size (2 * len + 1) v (sumH (listAt S x hs)).1 (sumH (listAt S x hs)).2 → Below w.heap.size w w' → GivesR w (2 * len + 1) (sumH (listAt S x hs)).1 (sumH (listAt S x hs)).2 (.returned v) w' from fun w' v h1 h2 => ⟨v, rfl, h1, h2⟩)
  have WL := Lib.hid (show (wsL (listAt S x hs)).length ≤ len by rw [wsL_len]; have := listAt_len S x hs; have := hr.len; omega)
  have OKW := Lib.hid (show ∀ p ∈ wsL (listAt S x hs), OkW p from okWs (fun h hh => by obtain ⟨q, hq, rfl⟩ := listAt_sub S x hs h hh; exact gd q hq))
  clear h hS g hr gd hsv hl
  go_enter Tryz.func58, Tryz.ntmps58
  go_wp2
  try rw [hW1]
  go_loopw [7, 8] (fun v u wr => ∃ i : Nat, u = .int .i64 i ∧ i ≤ len ∧ wr.ownsRow W1.heap.size 46 2 v (wsL (listAt S x (hs.take i))).length (cellsW (wsL (listAt S x (hs.take i)))) ∧ Below W1.heap.size W1 wr) (fun _ u _ => len - (intOf u).toNat)
  case atStart => exact ⟨0, rfl, by omega, World.ownsRow_nil _ _ _ _, Below.refl _ _⟩
  case round =>
    obtain ⟨i, rfl, il, hown, hbel⟩ := hrel
    have HO := Lib.hid hown
    have HW := Lib.hid hbel
    have LI := Lib.hid (show (wsL (listAt S x (hs.take i))).length ≤ 20 by rw [wsL_len]; have := listAt_len S x (hs.take i); rw [List.length_take] at this; have := HL.out; omega)
    clear hown hbel
    by_cases go : i < len
    · have t1 : decide (i < len) = true := decide_eq_true go
      have t2 : decide ((i : Int) < (len : Int)) = true := decide_eq_true (by omega)
      obtain ⟨q, hq⟩ : ∃ q, hs[i]? = some q := ⟨_, List.getElem?_eq_getElem (by rw [LN.out]; exact go)⟩
      obtain ⟨ba, oa, rfl, hat⟩ := (R.out.below HW.out).at hq
      have TK := Lib.hid (listAt_take (S := S) (x := x) hq)
      have SQ := Lib.hid (SV.out q (List.mem_of_getElem? hq))
      have GQ := Lib.hid (G.out q (List.mem_of_getElem? hq))
      have HQ := Lib.hid hq
      have k1 := hat.c1
      have j1 : (i : Int) < (len : Int) := by omega
      have j2 : 0 ≤ (i : Int) := by omega
      have wi : IntKind.i64.wrap ((i : Int) + 1) = (i : Int) + 1 := IntWalk.i64_in _ (by omega)
      clear hq hat
      cases ho : onB S x q.srv with
      | false =>
        have NO := Lib.hid ho
        rw [ho] at TK
        clear ho
        go_wp2_with fail
        refine (r13on_any r F v sa n sc S ls x q.srv _ (H.out.below HW.out) (RS.out.below HW.out) GS.out SQ.out false NO.out).mono ?_
        rintro e w2 ⟨rfl, hb⟩
        have HO := Lib.hid (owns_below HO.out hb)
        have HW := Lib.hid (below_next HW.out hb)
        have TK := Lib.hid (TK.out.trans (List.append_nil _))
        clear hb k1
        go_wp2
        go_roundw
        case rel => exact ⟨i + 1, by go_num, by omega, by rw [TK.out]; exact HO.out, HW.out⟩
        case measure => simp [intOf]; omega
      | true =>
        have YES := Lib.hid ho
        rw [ho] at TK
        clear ho
        go_wp2_with fail
        refine (r13on_any r F v sa n sc S ls x q.srv _ (H.out.below HW.out) (RS.out.below HW.out) GS.out SQ.out true YES.out).mono ?_
        rintro e w2 ⟨rfl, hb⟩
        have HO := Lib.hid (owns_below HO.out hb)
        have HW := Lib.hid (below_next HW.out hb)
        obtain ⟨E, P, hEP⟩ : ∃ E P, holdsV q.h = (E, P) := ⟨_, _, rfl⟩
        have HX := Lib.hid hEP
        rw [hEP] at TK
        have TK := Lib.hid (show wsL (listAt S x (hs.take (i + 1))) = wsL (listAt S x (hs.take i)) ++ [(E, P)] from TK.out)
        obtain ⟨ba', oa', he', hat⟩ := (R.out.below HW.out).at HQ.out
        cases he'
        have k0 := hat.c0; have k1' := hat.c1; have k2 := hat.c2; have k3 := hat.c3; have k4 := hat.c4; have k5 := hat.c5; have k6 := hat.c6
        clear hb k1 hEP hat
        go_wp2_with fail
        refine (r13holds_any q GQ.out _ E P HX.out).mono ?_
        rintro e w3 ⟨rfl, hb⟩
        have HO := Lib.hid (owns_below HO.out hb)
        have HW := Lib.hid (below_next HW.out hb)
        clear hb k0 k1' k2 k3 k4 k5 k6
        have SZ := Lib.hid HW.out.size
        go_wp2_with (at_builtin; refine app_weight rfl _ _ rfl W1.heap.size _ (wsL (listAt S x (hs.take i))) rfl (HO.out.alloc _) w3.heap.size (E, P) rfl (heap_alloc_new w3 _) (by have := SZ.out; simp; omega) (by have := LI.out; omega) ?_; intro v2 w4 hown2 hgrow2; have HO2 := Lib.hid hown2; have HG2 := Lib.hid hgrow2; clear hown2 hgrow2)
        have B4 := Lib.hid (show Below W1.heap.size W1 w4 from (HW.out.alloc SZ.out _).grown HG2.out (by have := SZ.out; simp; omega) (fun g hg => (HO.out.lt g hg).1))
        go_wp2
        go_roundw
        case rel => exact ⟨i + 1, by go_num, by omega, by rw [TK.out]; exact HO2.out, B4.out⟩
        case measure => simp [intOf]; omega
    · have t1 : decide (i < len) = false := decide_eq_false go
      have t2 : decide ((i : Int) < (len : Int)) = false := decide_eq_false (by omega)
      have EL := Lib.hid (show hs.take i = hs by rw [List.take_of_length_le (by rw [LN.out]; omega)])
      rw [EL.out] at HO
      obtain ⟨a', cap', rfl, hr, _⟩ := getW HO.out
      have HR := Lib.hid hr
      obtain ⟨k, hk⟩ : ∃ k, (wsL (listAt S x hs)).length = k := ⟨_, rfl⟩
      rw [hk]
      rw [hk] at HR WL
      have BT := Lib.hid (below_next B1.out HW.out)
      have X2 := Lib.hid (X1.out.below HW.out)
      clear hr hk
      go_wp2_with fail
      refine (rsum_any a' k cap' (wsL (listAt S x hs)) _ HR.out OKW.out (by have := WL.out; have := HL.out; omega)).mono ?_
      rintro e w3 ⟨vv, rfl, hr, hb⟩
      have B3 := Lib.hid (below_next BT.out hb)
      have X3 := Lib.hid (X2.out.below hb)
      have F3 := Lib.hid BT.out.size
      have hr := hr.mono (Nat.le_refl _) (show 2 * k + 1 ≤ 2 * len + 1 by have := WL.out; omega)
      obtain ⟨n1, l1, cc1, z1, n2, l2, cc2, z2, rfl, q1, q2, q3, q4, q5, q6, q7, q8⟩ := hr
      have x0 := X3.out.cell 0; have x1 := X3.out.cell 1
      have f0 := X3.out.free 0; have f1 := X3.out.free 1
      simp at x0 x1
      have SZ := Lib.hid (show w.heap.size < wr.heap.size from X2.out.lt)
      have Q1 := Lib.hid q1; have Q2 := Lib.hid q2; have Q3 := Lib.hid q3; have Q4 := Lib.hid q4; have Q7 := Lib.hid q7; have Q8 := Lib.hid q8
      have Q5 := Lib.hid q5; have Q6 := Lib.hid q6
      clear hb q1 q2 q3 q4 q5 q6 q7 q8
      go_wp2
      have hne : ∀ ad' : Addr, n1 = some ad' → ad'.block ≠ w.heap.size := fun ad' e => by have h1 := Q7.out ad' e; have := SZ.out; omega
      have hne2 : ∀ ad' : Addr, n2 = some ad' → ad'.block ≠ w.heap.size := fun ad' e => by have h1 := Q8.out ad' e; have := SZ.out; omega
      refine bodyPost_ret (v := .agg #[.slice n1 l1 cc1, .slice n2 l2 cc2]) (by simp [results, Tryz.results58, go_sem, x0, x1]) rfl (GB.out _ _ ⟨n1, l1, cc1, z1, n2, l2, cc2, z2, rfl, ?_, Q2.out, ?_, Q4.out, Q5.out, Q6.out, Q7.out.mono F3.out, Q8.out.mono F3.out⟩ ((B3.out.setCell (Nat.le_refl _) _).setCell (Nat.le_refl _) _))
      · exact (Q1.out.setCell _ _ hne).setCell _ _ hne
      · exact (Q3.out.setCell _ _ hne2).setCell _ _ hne2
end Go.Proofs.YtbonilmlfelmpaaGreat
namespace Go.Proofs.YtbonilmlfelmpaaGreat
open Go.RowKit

set_option maxHeartbeats 2000000 in
theorem r13at_any (r : Nat) (F : Nat → Prop) (v sv : Value) (hs : List Hq) (id : Int) (w : World) (h : RQ w r F v sv hs) :
    Calls Tryz.prog 22 #[.pointer (some ⟨r, 0, none⟩), .int .i64 id] w fun e w' => ∃ k, e = .returned (.int .i64 k) ∧ AtV (lst hs) id k ∧ w = w' := by
  obtain ⟨an, ln, cn, ad, ld, cd, sa, sl, sc, u, _, _, hb, hq, _, _⟩ := h
  obtain ⟨a, cap, rfl, hr⟩ := hq.row
  have c2 := hb.cell 3
  simp at c2
  obtain ⟨n, hn⟩ : ∃ n, hs.length = n := ⟨_, rfl⟩
  rw [hn] at c2 hr
  have HN := Lib.hid hn
  have R := Lib.hid hr
  have ⟨c1, c3⟩ := RowF.cap_le hr
  clear hb hq hr hn
  go_enter Tryz.func22, Tryz.ntmps22
  go_wp2
  go_loopw [5] (fun u wr => ∃ i : Nat, u = .int .i64 i ∧ i ≤ n ∧ (∀ x ∈ (lst hs).take i, x.id ≠ id) ∧ wr = w) (fun u _ => n - (intOf u).toNat)
  case atStart => exact ⟨0, rfl, by omega, (fun x hx => by simp at hx), rfl⟩
  case round =>
    obtain ⟨i, rfl, il, hne, rfl⟩ := hrel
    have NE := Lib.hid hne
    clear hne
    by_cases go : i < n
    · have t1 : decide (i < n) = true := decide_eq_true go
      have t2 : decide ((i : Int) < (n : Int)) = true := decide_eq_true (by omega)
      obtain ⟨x, hx⟩ : ∃ x, hs[i]? = some x := ⟨_, List.getElem?_eq_getElem (by rw [HN.out]; exact go)⟩
      obtain ⟨ba, oa, rfl, hat⟩ := R.out.at hx
      have c0 := hat.c0
      have j1 : (i : Int) < (n : Int) := by omega
      have j2 : 0 ≤ (i : Int) := by omega
      have wi : IntKind.i64.wrap ((i : Int) + 1) = (i : Int) + 1 := IntWalk.i64_in _ (by omega)
      have HX := Lib.hid hx
      clear hx hat
      by_cases e : x.h.id = id
      · have e1 : (x.h.id == id) = true := by simp [e]
        have HE := Lib.hid e
        clear e
        go_wp2
        go_ret
        exact ⟨_, rfl, .inr ⟨i, x.h, rfl, lst_at HX.out, HE.out, NE.out⟩, rfl⟩
      · have e1 : (x.h.id == id) = false := by simp [e]
        have N2 := Lib.hid (take_more (lst_at HX.out) e NE.out)
        clear e
        go_wp2
        go_roundw
        case rel => exact ⟨i + 1, by go_num, by omega, N2.out, by trivial⟩
        case measure => simp [intOf]; omega
    · have t1 : decide (i < n) = false := decide_eq_false go
      have t2 : decide ((i : Int) < (n : Int)) = false := decide_eq_false (by omega)
      have EL := Lib.hid (show (lst hs).take i = lst hs by rw [List.take_of_length_le (by rw [lst_len, HN.out]; omega)])
      rw [EL.out] at NE
      go_wp2
      go_ret
      exact ⟨_, rfl, .inl ⟨rfl, NE.out⟩, rfl⟩

set_option maxHeartbeats 2000000 in
theorem r13Held_any (r : Nat) (F : Nat → Prop) (v : Value) (sa : Option Addr) (n sc : Nat) (S : List Sv) (hs : List Hq) (x : Int) (w : World) (h : RQ w r F v (.slice sa n sc) hs) (hS : RowS w sa n sc S) (g : GoodSv S) (gd : ∀ q ∈ hs, GoodH q.h) (hsv : ∀ q ∈ hs, hasB S q.srv = true) (hl : hs.length ≤ 20) :
    Calls Tryz.prog 26 #[.pointer (some ⟨r, 0, none⟩), .int .i64 x] w (GivesR w 41 (heldQ S x hs).1 (heldQ S x hs).2) := by
  obtain ⟨W1, hW1⟩ : ∃ W1, w.alloc (.cells #[.slice none 0 0, .slice none 0 0] 35) = W1 := ⟨_, rfl⟩
  have B1 := Lib.hid (show Below w.heap.size w W1 by rw [← hW1]; exact wbox _ _)
  have X1 := Lib.hid (show Blk W1 35 w.heap.size #[.slice none 0 0, .slice none 0 0] by rw [← hW1]; exact Blk.new w _ _)
  have H1 := Lib.hid (h.below B1.out)
  obtain ⟨an, ln, cn, ad, ld, cd, sa', sl', sc', u, _, hsv', hb, hq, _, _⟩ := h.below B1.out
  cases hsv'
  obtain ⟨a, cap, rfl, hr⟩ := hq.row
  have RS := Lib.hid (hS.below B1.out)
  have LN := Lib.hid hS.len
  have GS := Lib.hid g
  have GD := Lib.hid gd
  have SV := Lib.hid hsv
  obtain ⟨k, hk⟩ : ∃ k, hs.length = k := ⟨_, rfl⟩
  rw [hk] at hb hr hl
  have R1 := Lib.hid hr
  have HL := Lib.hid hl
  have c2 := hb.cell 2
  have c3 := hb.cell 3
  simp at c2 c3
  have FIN := Lib.hid (show ∀ (w2 w' : World) (v : Value) (e : Ending) (L : Nat), Below w.heap.size w w2 → w.heap.size < w2.heap.size → Blk w2 35 w.heap.size #[.slice none 0 0, .slice none 0 0] → GivesR w2 L (heldQ S x hs).1 (heldQ S x hs).2 e w' → L ≤ 41 → ∃ n1 l1 cc1 n2 l2 cc2, e = .returned (.agg #[.slice n1 l1 cc1, .slice n2 l2 cc2]) ∧ Blk w' 35 w.heap.size #[.slice none 0 0, .slice none 0 0] ∧ GivesR w 41 (heldQ S x hs).1 (heldQ S x hs).2 (.returned (.agg #[.slice n1 l1 cc1, .slice n2 l2 cc2])) ((w'.setCell ⟨w.heap.size, 0, none⟩ (.slice n1 l1 cc1)).setCell ⟨w.heap.size, 1, none⟩ (.slice n2 l2 cc2)) from fun w2 w' v e L b2 sz x2 hg hL => by
    obtain ⟨vv, rfl, hr, hb⟩ := hg
    have hr := hr.mono (Nat.le_refl _) hL
    have X3 := x2.below hb
    obtain ⟨n1, l1, cc1, z1, n2, l2, cc2, z2, rfl, q1, q2, q3, q4, q5, q6, q7, q8⟩ := hr
    have hne : ∀ ad' : Addr, n1 = some ad' → ad'.block ≠ w.heap.size := fun ad' e => by have h1 := q7 ad' e; omega
    have hne2 : ∀ ad' : Addr, n2 = some ad' → ad'.block ≠ w.heap.size := fun ad' e => by have h1 := q8 ad' e; omega
    refine ⟨n1, l1, cc1, n2, l2, cc2, rfl, X3, _, rfl, ⟨n1, l1, cc1, z1, n2, l2, cc2, z2, rfl, (q1.setCell _ _ hne).setCell _ _ hne, q2, (q3.setCell _ _ hne2).setCell _ _ hne2, q4, q5, q6, q7.mono b2.size, q8.mono b2.size⟩, ((below_next b2 hb).setCell (Nat.le_refl _) _).setCell (Nat.le_refl _) _⟩)
  have SZ := Lib.hid (show w.heap.size < W1.heap.size from X1.out.lt)
  by_cases hx : -1 ≤ x ∧ x < (S.length : Int)
  · have t1 : decide (x < -1) = false := decide_eq_false (by omega)
    have t2 : decide ((n : Int) ≤ x) = false := decide_eq_false (by have := LN.out; omega)
    have HB := Lib.hid (show heldQ S x hs = sumH (listAt S x hs) from if_pos (has_is.mpr hx))
    clear hb hq hr h hS g gd hsv hl hx hk
    go_enter Tryz.func26, Tryz.ntmps26
    go_wp2_with fail
    try rw [hW1]
    refine (r13held_any r F v sa n sc S hs a k cap hs x _ H1.out RS.out GS.out R1.out GD.out SV.out HL.out).mono ?_
    rintro e w3 hg
    rw [← HB.out] at hg
    obtain ⟨n1, l1, cc1, n2, l2, cc2, rfl, hx3, hfin⟩ := FIN.out W1 w3 v e _ B1.out SZ.out X1.out hg (by have := HL.out; omega)
    have x0 := hx3.cell 0; have x1 := hx3.cell 1
    have f0 := hx3.free 0; have f1 := hx3.free 1
    simp at x0 x1
    have FF := Lib.hid hfin
    clear hg hx3 hfin
    go_wp2
    exact bodyPost_ret (v := .agg #[.slice n1 l1 cc1, .slice n2 l2 cc2]) (by simp [results, Tryz.results26, go_sem, x0, x1]) rfl FF.out
  · have HB := Lib.hid (show heldQ S x hs = sumR [] from if_neg (by rw [has_no hx]; simp))
    have NX := Lib.hid hx
    clear hb hq hr h hS g gd hsv hl hx hk
    have EMP := Lib.hid (show RowP W1 none 0 0 [] from ⟨rfl, by omega, by omega, (fun _ => rfl), (fun i hi => by omega)⟩)
    by_cases hlo : x < -1
    · have t1 : decide (x < -1) = true := decide_eq_true hlo
      clear hlo
      go_enter Tryz.func26, Tryz.ntmps26
      go_wp2_with fail
      try rw [hW1]
      refine (rsum_any none 0 0 [] _ EMP.out (fun _ h => by cases h) (by omega)).mono ?_
      rintro e w3 hg
      rw [← HB.out] at hg
      obtain ⟨n1, l1, cc1, n2, l2, cc2, rfl, hx3, hfin⟩ := FIN.out W1 w3 v e _ B1.out SZ.out X1.out hg (by omega)
      have x0 := hx3.cell 0; have x1 := hx3.cell 1
      have f0 := hx3.free 0; have f1 := hx3.free 1
      simp at x0 x1
      have FF := Lib.hid hfin
      clear hg hx3 hfin
      go_wp2
      exact bodyPost_ret (v := .agg #[.slice n1 l1 cc1, .slice n2 l2 cc2]) (by simp [results, Tryz.results26, go_sem, x0, x1]) rfl FF.out
    · have t1 : decide (x < -1) = false := decide_eq_false hlo
      have t2 : decide ((n : Int) ≤ x) = true := decide_eq_true (by have := LN.out; have := NX.out; omega)
      clear hlo
      go_enter Tryz.func26, Tryz.ntmps26
      go_wp2_with fail
      try rw [hW1]
      refine (rsum_any none 0 0 [] _ EMP.out (fun _ h => by cases h) (by omega)).mono ?_
      rintro e w3 hg
      rw [← HB.out] at hg
      obtain ⟨n1, l1, cc1, n2, l2, cc2, rfl, hx3, hfin⟩ := FIN.out W1 w3 v e _ B1.out SZ.out X1.out hg (by omega)
      have x0 := hx3.cell 0; have x1 := hx3.cell 1
      have f0 := hx3.free 0; have f1 := hx3.free 1
      simp at x0 x1
      have FF := Lib.hid hfin
      clear hg hx3 hfin
      go_wp2
      exact bodyPost_ret (v := .agg #[.slice n1 l1 cc1, .slice n2 l2 cc2]) (by simp [results, Tryz.results26, go_sem, x0, x1]) rfl FF.out
end Go.Proofs.YtbonilmlfelmpaaGreat

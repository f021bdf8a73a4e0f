/-
  Package quota as landed: Check: contract.
  Package quota as landed: New: contract.
  Package quota as landed: New: contract.
-/
import Derived.Test.YtbonilmlfelmpaaGreatQzB
import Derived.Deep.RegionHeld3
import Derived.Deep.DeepCutAuto
import Derived.Deep.RegionLaw
import Derived.Carry
namespace Go.Proofs.YtbonilmlfelmpaaGreat
open Go.RowKit Go.Shelf

def qmayB (E P : Int) : Bool := decide (0 ≤ E ∧ E ≤ 1073741824 ∧ 1 ≤ P ∧ P ≤ 1048576)
theorem qmay_any (E P : Int) (w : World) : Calls Tryz.prog 62 #[.agg #[.int .i64 E, .int .i64 P]] w fun e w' => e = .returned (.bool (qmayB E P)) ∧ Below w.heap.size w w' := by
  have K := Blk.new w 46 #[.int .i64 E, .int .i64 P]
  have k0 := K.cell 0; have k1 := K.cell 1
  simp at k0 k1
  by_cases h1 : 0 ≤ E
  · have t1 : decide (0 ≤ E) = true := decide_eq_true h1
    by_cases h2 : E ≤ 1073741824
    · have t2 : decide (E ≤ 1073741824) = true := decide_eq_true h2
      by_cases h3 : 1 ≤ P
      · have t3 : decide (1 ≤ P) = true := decide_eq_true h3
        by_cases h4 : P ≤ 1048576
        · have t4 : decide (P ≤ 1048576) = true := decide_eq_true h4
          rw [show qmayB E P = true from decide_eq_true ⟨h1, h2, h3, h4⟩]
          clear h1 h2 h3 h4
          go_enter Tryz.func62, Tryz.ntmps62
          go_wp2
          go_ret
          exact ⟨rfl, wbox _ _⟩
        · have t4 : decide (P ≤ 1048576) = false := decide_eq_false h4
          rw [show qmayB E P = false from decide_eq_false (fun q => h4 q.2.2.2)]
          clear h1 h2 h3 h4
          go_enter Tryz.func62, Tryz.ntmps62
          go_wp2
          go_ret
          exact ⟨rfl, wbox _ _⟩
      · have t3 : decide (1 ≤ P) = false := decide_eq_false h3
        rw [show qmayB E P = false from decide_eq_false (fun q => h3 q.2.2.1)]
        clear h1 h2 h3
        go_enter Tryz.func62, Tryz.ntmps62
        go_wp2
        go_ret
        exact ⟨rfl, wbox _ _⟩
    · have t2 : decide (E ≤ 1073741824) = false := decide_eq_false h2
      rw [show qmayB E P = false from decide_eq_false (fun q => h2 q.2.1)]
      clear h1 h2
      go_enter Tryz.func62, Tryz.ntmps62
      go_wp2
      go_ret
      exact ⟨rfl, wbox _ _⟩
  · have t1 : decide (0 ≤ E) = false := decide_eq_false h1
    rw [show qmayB E P = false from decide_eq_false (fun q => h1 q.1)]
    clear h1
    go_enter Tryz.func62, Tryz.ntmps62
    go_wp2
    go_ret
    exact ⟨rfl, wbox _ _⟩
/-- the i-th may be -/
def svB (i : Nat) (v : Sv) : Prop := -1 ≤ v.par ∧ v.par < (i : Int) ∧ qmayB v.E v.P = true
theorem good_of {S : List Sv} (hl : S.length ≤ 16) (h : ∀ i v, S[i]? = some v → svB i v) : GoodSv S := ⟨hl, fun i v hv => by
  obtain ⟨a, b, c⟩ := h i v hv
  have := of_decide_eq_true (p := 0 ≤ v.E ∧ v.E ≤ 1073741824 ∧ 1 ≤ v.P ∧ v.P ≤ 1048576) c
  exact ⟨a, b, this⟩⟩
theorem good_at {S : List Sv} (g : GoodSv S) {i : Nat} {v : Sv} (hv : S[i]? = some v) : svB i v := by
  obtain ⟨a, b, c⟩ := g.each i v hv
  exact ⟨a, b, decide_eq_true c⟩
set_option maxRecDepth 20000 in
set_option maxHeartbeats 4000000 in
theorem qcheckS_any (a : Option Addr) (len cap : Nat) (S : List Sv) (w : World) (hr : RowS w a len cap S) (b : Bool) (hb : b = true ↔ GoodSv S) :
    Calls Tryz.prog 31 #[.slice a len cap] w fun e w' => e = .returned (.bool b) ∧ Below w.heap.size w w' := by
  have R := Lib.hid hr
  have LN := Lib.hid hr.len
  have HB := Lib.hid hb
  have ⟨c1, c2⟩ := RowF.cap_le hr
  clear hr hb
  by_cases h16 : 16 < len
  · have t : decide ((16 : Int) < (len : Int)) = true := decide_eq_true (by omega)
    have FB := Lib.hid (show b = false by
      cases b with
      | false => rfl
      | true => have := (HB.out.mp rfl).len; have := LN.out; omega)
    go_enter Tryz.func31, Tryz.ntmps31
    go_wp2
    go_ret
    exact ⟨by rw [FB.out]; rfl, Below.refl _ _⟩
  · have t : decide ((16 : Int) < (len : Int)) = false := decide_eq_false (by omega)
    go_enter Tryz.func31, Tryz.ntmps31
    go_wp2
    go_loopw [10] (fun u wr => ∃ i : Nat, u = .int .i64 i ∧ i ≤ len ∧ (∀ j v, j < i → S[j]? = some v → svB j v) ∧ Below w.heap.size w wr) (fun u _ => len - (intOf u).toNat)
    case atStart => exact ⟨0, rfl, by omega, (fun j v h => by omega), Below.refl _ _⟩
    case round =>
      obtain ⟨i, rfl, il, hok, hbel⟩ := hrel
      have OK := Lib.hid hok
      have HW := Lib.hid hbel
      clear hok hbel
      by_cases go : i < len
      · have t1 : decide (i < len) = true := decide_eq_true go
        have t2 : decide ((i : Int) < (len : Int)) = true := decide_eq_true (by omega)
        obtain ⟨x, hx⟩ : ∃ x, S[i]? = some x := ⟨_, List.getElem?_eq_getElem (by rw [LN.out]; exact go)⟩
        obtain ⟨ba, oa, rfl, hat⟩ := (R.out.below HW.out).at hx
        have HX := Lib.hid hx
        obtain ⟨par, E, P⟩ := x
        have k0 := hat.c0; have k1 := hat.c1; have k2 := hat.c2
        simp only at k0 k1 k2
        have j1 : (i : Int) < (len : Int) := by omega
        have j2 : 0 ≤ (i : Int) := by omega
        have wi : IntKind.i64.wrap ((i : Int) + 1) = (i : Int) + 1 := IntWalk.i64_in _ (by omega)
        have NO := Lib.hid (show ¬ svB i ⟨par, E, P⟩ → b = false from fun q => by
          cases b with
          | false => rfl
          | true => exact absurd (good_at (HB.out.mp rfl) HX.out) q)
        have B2 := Lib.hid (HW.out.alloc HW.out.size (.cells #[.int .i64 par, .int .i64 E, .int .i64 P] 61))
        clear hx hat
        by_cases h1 : par < -1
        · have d1 : decide (par < -1) = true := decide_eq_true h1
          have FB := Lib.hid (NO.out (fun q => by have := q.1; simp only at this; omega))
          clear h1
          go_wp2
          go_ret
          exact ⟨by rw [FB.out]; rfl, B2.out⟩
        · have d1 : decide (par < -1) = false := decide_eq_false h1
          by_cases h2 : (i : Int) ≤ par
          · have d2 : decide ((i : Int) ≤ par) = true := decide_eq_true h2
            have FB := Lib.hid (NO.out (fun q => by have := q.2.1; simp only at this; omega))
            clear h1 h2
            go_wp2
            go_ret
            exact ⟨by rw [FB.out]; rfl, B2.out⟩
          · have d2 : decide ((i : Int) ≤ par) = false := decide_eq_false h2
            cases hq : qmayB E P with
            | false =>
              have FB := Lib.hid (NO.out (fun q => by have := q.2.2; simp only at this; rw [hq] at this; cases this))
              have HQ := Lib.hid hq
              clear h1 h2 hq
              go_wp2_with fail
              refine (qmay_any E P _).mono ?_
              rintro e w2 ⟨rfl, hb⟩
              rw [HQ.out]
              have B3 := Lib.hid (below_next B2.out hb)
              clear hb
              go_wp2
              go_ret
              exact ⟨by rw [FB.out]; rfl, B3.out⟩
            | true =>
              have OK2 := Lib.hid (show ∀ j v, j < i + 1 → S[j]? = some v → svB j v from fun j v hj hv => by
                rcases Nat.lt_or_ge j i with k | k
                · exact OK.out j v k hv
                · obtain rfl : j = i := by omega
                  have := HX.out
                  rw [this] at hv
                  cases hv
                  exact ⟨by simp only; omega, by simp only; omega, hq⟩)
              have HQ := Lib.hid hq
              clear h1 h2 hq
              go_wp2_with fail
              refine (qmay_any E P _).mono ?_
              rintro e w2 ⟨rfl, hb⟩
              rw [HQ.out]
              have B3 := Lib.hid (below_next B2.out hb)
              clear hb
              go_wp2
              go_roundw
              case rel => exact ⟨i + 1, by go_num, by omega, OK2.out, B3.out⟩
              case measure => simp [intOf]; omega
      · have t1 : decide (i < len) = false := decide_eq_false go
        have t2 : decide ((i : Int) < (len : Int)) = false := decide_eq_false (by omega)
        have TB := Lib.hid (HB.out.mpr (good_of (by rw [LN.out]; omega) (fun j v hv => OK.out j v (by
          have : j < S.length := by
            rcases Nat.lt_or_ge j S.length with k | k
            · exact k
            · rw [List.getElem?_eq_none k] at hv; cases hv
          have := LN.out
          omega) hv)))
        go_wp2
        go_ret
        exact ⟨by rw [TB.out]; rfl, HW.out⟩
end Go.Proofs.YtbonilmlfelmpaaGreat
namespace Go.Proofs.YtbonilmlfelmpaaGreat
open Go.RowKit Go.Shelf

theorem cellsT_set (pv : Value) (m : Nat) (f : Nat → Value) (v : Value) {i : Nat} (h : i < 17) : (cellsT pv m f).setIfInBounds (2 + i) v = cellsT pv m (fun k => if k = i then v else f k) := by
  match i, h with
  | 0, _ => rfl
  | 1, _ => rfl
  | 2, _ => rfl
  | 3, _ => rfl
  | 4, _ => rfl
  | 5, _ => rfl
  | 6, _ => rfl
  | 7, _ => rfl
  | 8, _ => rfl
  | 9, _ => rfl
  | 10, _ => rfl
  | 11, _ => rfl
  | 12, _ => rfl
  | 13, _ => rfl
  | 14, _ => rfl
  | 15, _ => rfl
  | 16, _ => rfl
  | i + 17, h => omega
theorem step_append_int {w : World} {ops : Array Oper} {o : Oper} {act : Act} {K : Act → World → Prop} {Q : Exit → Act → World → Prop} {X : Prop} (hgd : o.guard = none) (s x : Operand)
    (ho : o.op = .call { callee := .builtin .append, args := #[s, x], argTypes := #[22, 22] }) (base : Nat) (v : Value) (ns : List Int) (hs : act.eval s = v)
    (hown : w.ownsRow base 3 1 v ns.length (ns.map (Value.int .i64))) (g : Nat) (e : Int) (hx : act.eval x = .slice (some ⟨g, 0, none⟩) 1 1) (hg : w.heap[g]? = some (.cells #[.int .i64 e] 3 (0, 0))) (hb : base ≤ w.heap.size) (hsm : ns.length ≤ 1000)
    (h : ∀ v' w', w'.ownsRow base 3 1 v' (ns ++ [e]).length ((ns ++ [e]).map (Value.int .i64)) → w.grownBy w' v.ownBlock → (v'.ownBlock = v.ownBlock ∨ v'.ownBlock = some w.heap.size) → K (act.put o.dst v') w') :
    if Region.wanted o (yielded ops act.tmps) = true then Oper.wp Tryz.prog o act w K Q else X := by
  have hw : Region.wanted o (yielded ops act.tmps) = true := by simp [Region.wanted, hgd]
  rw [if_pos hw]
  obtain ⟨i0, hi, hz0, hz1, hz2⟩ := info_parts Tryz.infoI
  obtain ⟨v2, w2, hrun, ho2, hg2, _, hat⟩ := run_append_own_at (P := Tryz.prog) w base 22 o.type _ i0 _ 1 8 Tryz.underlying22 hi hz0 hz1 hz2 rfl (by decide) v _ _ hown ⟨g, 0, none⟩ 1 1 [.int .i64 e] rfl (World.news_of_block (cs := #[.int .i64 e]) (t := 3) (fr := (0, 0)) hg) (by simp [Value.oneCell']) (by unfold maxLen; omega) (by omega) hb
  unfold Oper.wp
  simp [execOp, ho, resolve, invoke, builtin, hs, hx, hrun, Result.andThen]
  refine h v2 w2 ?_ hg2 hat
  rw [List.length_append, List.map_append]
  exact ho2
/-- a tree on its way: p parents are written, the ledgers up to place i are made -/
structure NewI (w : World) (S : List Sv) (N D : Int) (g m p i : Nat) (pv : Value) (G : Nat → Nat) (Fs As : Nat → Nat → Prop) (W : World) : Prop where
  blk : Blk W 72 g (cellsT pv m (fun k => if k ≤ i then .pointer (some ⟨G k, 0, none⟩) else .pointer none))
  own : W.ownsRow w.heap.size 3 1 pv (S.take p |>.map Sv.par).length ((S.take p |>.map Sv.par).map (Value.int .i64))
  map : W.heap[m]? = some (.map #[] 0)
  led : ∀ k : Nat, k ≤ i → HpL W (G k) (Fs k) (As k) (qN S N ((k : Int) - 1)) (qD S D ((k : Int) - 1)) []
  apF : ∀ j k : Nat, j ≤ i → k ≤ i → j ≠ k → Apart (Fs j) (Fs k)
  apA : ∀ j k : Nat, j ≤ i → k ≤ i → j ≠ k → Apart (As j) (Fs k)
  far : ∀ k : Nat, k ≤ i → ∀ b, Fs k b ∨ As k b → w.heap.size ≤ b ∧ b ≠ g ∧ b ≠ m ∧ pv.ownBlock ≠ some b
  pg : pv.ownBlock ≠ some g
  pm : pv.ownBlock ≠ some m
  mg : m ≠ g
  g0 : w.heap.size ≤ g
  m0 : w.heap.size ≤ m
  bel : Below w.heap.size w W
theorem NewI.below {w W W' : World} {S : List Sv} {N D : Int} {g m p i : Nat} {pv : Value} {G : Nat → Nat} {Fs As : Nat → Nat → Prop} (h : NewI w S N D g m p i pv G Fs As W) (hb : Below W.heap.size W W') : NewI w S N D g m p i pv G Fs As W' :=
  ⟨h.blk.below hb, owns_below h.own hb, (hb.block m (Array.getElem?_eq_some_iff.1 h.map).1).trans h.map, fun k hk => (h.led k hk).keeps (G := fun _ => False) (Keeps.of hb) (fun _ _ q => q) (fun _ _ q => q), h.apF, h.apA, h.far, h.pg, h.pm, h.mg, h.g0, h.m0, below_next h.bel hb⟩
/-- it begins -/
theorem NewI.start {w W W' : World} {S : List Sv} {N D : Int} {g m g' : Nat} {F A : Nat → Prop} (hb : Blk W 72 g (cellsT (.slice none 0 0) m (fun _ => .pointer none))) (hm : W.heap[m]? = some (.map #[] 0)) (hmg : m ≠ g) (g0 : w.heap.size ≤ g) (m0 : w.heap.size ≤ m) (hw : Below w.heap.size w W)
    (hl : HpL W' g' F A N D []) (hF : From F W.heap.size) (hA : From A W.heap.size) (hbl : Below W.heap.size W W') : NewI w S N D g m 0 0 (.slice none 0 0) (fun _ => g') (fun _ => F) (fun _ => A) (W'.setCell ⟨g, 2, none⟩ (.pointer (some ⟨g', 0, none⟩))) := by
  have lg := hb.lt
  have lm : m < W.heap.size := (Array.getElem?_eq_some_iff.1 hm).1
  have kg : Keeps (fun k => k = g) W' (W'.setCell ⟨g, 2, none⟩ (.pointer (some ⟨g', 0, none⟩))) := (Keeps.refl (fun k => k = g) W').set (.inl rfl) _ _
  refine ⟨?_, World.ownsRow_nil _ _ _ _, (kg.block m (by have := hbl.size; omega) hmg).trans ((hbl.block m lm).trans hm), fun k hk => ?_, fun j k hj hk h => by omega, fun j k hj hk h => by omega, fun k _ b q => ?_, (fun e => by cases e), (fun e => by cases e), hmg, g0, m0, (below_next hw hbl).setCell g0 _⟩
  · have := (hb.below hbl).setH (2 + 0) (.pointer (some ⟨g', 0, none⟩))
    rw [cellsT_set _ _ _ _ (by omega)] at this
    have e : (fun k : Nat => if k = 0 then Value.pointer (some ⟨g', 0, none⟩) else .pointer none) = (fun k => if k ≤ 0 then Value.pointer (some ⟨g', 0, none⟩) else .pointer none) := by
      funext k
      by_cases e1 : k = 0
      · rw [if_pos e1, if_pos (by omega)]
      · rw [if_neg e1, if_neg (by omega)]
    rw [e] at this
    exact this
  · obtain rfl : k = 0 := by omega
    rw [qN_neg S N (by omega), qD_neg S D (by omega)]
    exact hl.keeps kg (fun b q e => by have := hF b q; omega) (fun b q e => by have := hA b q; omega)
  · have hb' : W.heap.size ≤ b := by
      rcases q with q | q
      · exact hF b q
      · exact hA b q
    have := hw.size
    exact ⟨by omega, by omega, by omega, fun e => by cases e⟩
/-- one parent more -/
theorem NewI.parent {w W W' : World} {S : List Sv} {N D : Int} {g m p i : Nat} {pv pv' : Value} {G : Nat → Nat} {Fs As : Nat → Nat → Prop} (h : NewI w S N D g m p i pv G Fs As W) (hg : W.grownBy W' pv.ownBlock) (hat : pv'.ownBlock = pv.ownBlock ∨ pv'.ownBlock = some W.heap.size)
    (ho : W'.ownsRow w.heap.size 3 1 pv' (S.take (p + 1) |>.map Sv.par).length ((S.take (p + 1) |>.map Sv.par).map (Value.int .i64))) :
    NewI w S N D g m (p + 1) i pv' G Fs As (W'.setCell ⟨g, 0, none⟩ pv') ∧ Blk W' 72 g (cellsT pv m (fun k => if k ≤ i then .pointer (some ⟨G k, 0, none⟩) else .pointer none)) := by
  have k0 : Keeps (fun k => pv.ownBlock = some k) W W' := (Keeps.refl _ W).grown hg (fun k e => .inl e)
  have b1 : Blk W' 72 g (cellsT pv m (fun k => if k ≤ i then .pointer (some ⟨G k, 0, none⟩) else .pointer none)) := h.blk.keeps k0 h.pg
  have k1 : Keeps (fun k => pv.ownBlock = some k ∨ k = g) W (W'.setCell ⟨g, 0, none⟩ pv') := ((Keeps.refl (fun k => pv.ownBlock = some k ∨ k = g) W).grown hg (fun k e => .inl (.inl e))).set (.inl (.inr rfl)) 0 pv'
  have newb : ∀ b, b < W.heap.size → pv.ownBlock ≠ some b → pv'.ownBlock ≠ some b := fun b hb q e => by
    rcases hat with r | r
    · exact q (r ▸ e)
    · rw [r] at e; cases e; omega
  have lg := h.blk.lt
  have lm : m < W.heap.size := (Array.getElem?_eq_some_iff.1 h.map).1
  have pg' := newb g lg h.pg
  refine ⟨⟨?_, owns_keeps ho (F := fun k => k = g) ((Keeps.refl (fun k => k = g) W').set (.inl rfl) 0 pv') (fun k e q => pg' (q ▸ e)), (k1.block m lm (fun q => by rcases q with q | q; exact h.pm q; exact h.mg q)).trans h.map, fun k hk => (h.led k hk).keeps k1 (fun b hb q => ?_) (fun b hb q => ?_), h.apF, h.apA, fun k hk b hb => ?_, pg', newb m lm h.pm, h.mg, h.g0, h.m0, ?_⟩, b1⟩
  · have := b1.setH 0 pv'
    exact this
  · have := h.far k hk b (.inl hb)
    rcases q with q | q
    · exact this.2.2.2 q
    · exact this.2.1 q
  · have := h.far k hk b (.inr hb)
    rcases q with q | q
    · exact this.2.2.2 q
    · exact this.2.1 q
  · have f := h.far k hk b hb
    refine ⟨f.1, f.2.1, f.2.2.1, newb b ?_ f.2.2.2⟩
    rcases hb with hb | hb
    · exact (h.led k hk).lies.1 b hb
    · exact (h.led k hk).lies.2 b hb
  · exact (h.bel.grown hg (h.bel.size) (fun k e => (h.own.lt k e).1)).setCell h.g0 _
/-- one ledger more -/
theorem NewI.ledger {w W W' : World} {S : List Sv} {N D : Int} {g m p i g' : Nat} {pv : Value} {G : Nat → Nat} {Fs As : Nat → Nat → Prop} {F A : Nat → Prop} (h : NewI w S N D g m p i pv G Fs As W) (hi : i < 16) (hl : HpL W' g' F A (qN S N (i : Int)) (qD S D (i : Int)) []) (hF : From F W.heap.size) (hA : From A W.heap.size) (hb : Below W.heap.size W W') :
    NewI w S N D g m p (i + 1) pv (fun k => if k = i + 1 then g' else G k) (fun k => if k = i + 1 then F else Fs k) (fun k => if k = i + 1 then A else As k) (W'.setCell ⟨g, 2 + (i + 1), none⟩ (.pointer (some ⟨g', 0, none⟩))) := by
  have h2 := h.below hb
  have lg := h.blk.lt
  have lm : m < W.heap.size := (Array.getElem?_eq_some_iff.1 h.map).1
  have kg : Keeps (fun k => k = g) W' (W'.setCell ⟨g, 2 + (i + 1), none⟩ (.pointer (some ⟨g', 0, none⟩))) := (Keeps.refl (fun k => k = g) W').set (.inl rfl) _ _
  have old : ∀ k, k ≤ i → ∀ b, Fs k b ∨ As k b → b < W.heap.size := fun k hk b q => by
    rcases q with q | q
    · exact (h.led k hk).lies.1 b q
    · exact (h.led k hk).lies.2 b q
  have up : ∀ k, k ≤ i + 1 → k = i + 1 ∨ k ≤ i := fun k hk => by omega
  have ne1 : ∀ k, k ≤ i → ¬ k = i + 1 := fun k hk => by omega
  refine ⟨?_, owns_keeps h2.own kg (fun k e q => h.pg (q ▸ e)), (kg.block m (by have := hb.size; omega) h.mg).trans h2.map, fun k hk => ?_, fun j k hj hk hjk b q1 q2 => ?_, fun j k hj hk hjk b q1 q2 => ?_, fun k hk b q => ?_, h.pg, h.pm, h.mg, h.g0, h.m0, h2.bel.setCell h.g0 _⟩
  · have := h2.blk.setH (2 + (i + 1)) (.pointer (some ⟨g', 0, none⟩))
    rw [cellsT_set _ _ _ _ (by omega)] at this
    have e : (fun k => if k = i + 1 then Value.pointer (some ⟨g', 0, none⟩) else if k ≤ i then .pointer (some ⟨G k, 0, none⟩) else .pointer none) = (fun k => if k ≤ i + 1 then Value.pointer (some ⟨(if k = i + 1 then g' else G k), 0, none⟩) else .pointer none) := by
      funext k
      by_cases e1 : k = i + 1
      · rw [if_pos e1, if_pos (by omega), if_pos e1]
      · rw [if_neg e1, if_neg e1]
        by_cases e2 : k ≤ i
        · rw [if_pos e2, if_pos (by omega)]
        · rw [if_neg e2, if_neg (by omega)]
    rw [e] at this
    exact this
  · rcases up k hk with rfl | r
    · simp only [if_true]
      have e : ((i + 1 : Nat) : Int) - 1 = (i : Int) := by omega
      rw [e]
      exact hl.keeps kg (fun b q e => by have := hF b q; omega) (fun b q e => by have := hA b q; omega)
    · simp only [if_neg (ne1 k r)]
      exact (h2.led k r).keeps kg (fun b q e => (h.far k r b (.inl q)).2.1 e) (fun b q e => (h.far k r b (.inr q)).2.1 e)
  · rcases up j hj with rfl | r1 <;> rcases up k hk with rfl | r2
    · exact hjk rfl
    · simp only [if_true, if_neg (ne1 k r2)] at q1 q2
      have := old k r2 b (.inl q2); have := hF b q1; omega
    · simp only [if_true, if_neg (ne1 j r1)] at q1 q2
      have := old j r1 b (.inl q1); have := hF b q2; omega
    · simp only [if_neg (ne1 j r1), if_neg (ne1 k r2)] at q1 q2
      exact h.apF j k r1 r2 hjk b q1 q2
  · rcases up j hj with rfl | r1 <;> rcases up k hk with rfl | r2
    · exact hjk rfl
    · simp only [if_true, if_neg (ne1 k r2)] at q1 q2
      have := old k r2 b (.inl q2); have := hA b q1; omega
    · simp only [if_true, if_neg (ne1 j r1)] at q1 q2
      have := old j r1 b (.inr q1); have := hF b q2; omega
    · simp only [if_neg (ne1 j r1), if_neg (ne1 k r2)] at q1 q2
      exact h.apA j k r1 r2 hjk b q1 q2
  · rcases up k hk with rfl | r
    · simp only [if_true] at q
      have hb' : W.heap.size ≤ b := by
        rcases q with q | q
        · exact hF b q
        · exact hA b q
      have := h.bel.size
      exact ⟨by omega, by omega, by omega, fun e => by have := (h.own.lt b e).2; omega⟩
    · simp only [if_neg (ne1 k r)] at q
      exact h.far k r b q
/-- the tree, whole -/
theorem NewI.done {w W : World} {S : List Sv} {N D : Int} {g m : Nat} {pv : Value} {G : Nat → Nat} {Fs As : Nat → Nat → Prop} (h : NewI w S N D g m S.length S.length pv G Fs As W) (gS : GoodSv S) (n0 : 0 ≤ N) (d0 : 0 < D) :
    ∃ F A, HpQ W g F A S N D [] ∧ From F w.heap.size ∧ From A w.heap.size := by
  have ho := h.own
  rw [List.take_length] at ho
  obtain ⟨pa, pc, rfl, hr, hf⟩ := row_of_owns ho
  rw [List.length_map] at hr
  have hbk := h.blk
  rw [List.length_map] at hbk
  have ob : ∀ ad : Addr, pa = some ad → (Value.slice pa (List.map Sv.par S).length pc).ownBlock = some ad.block := fun ad e => by rw [e]; rfl
  let t : TreeW := ⟨g, m, pa, pc, G, Fs, As⟩
  have key : ∀ x : Int, -1 ≤ x → ((plN x : Nat) : Int) - 1 = x := fun x hx => by unfold plN; omega
  refine ⟨ownT t S.length, readT t S.length, ⟨t, rfl, ⟨gS, hbk, hr, fun x h1 h2 => ?_, fun i j hi hj => h.apF i j hi hj, fun i j hi hj => h.apA i j hi hj, fun i hi k hk => ?_, h.mg, fun ad e q => h.pm (by rw [ob ad e, q]), fun i hi k hk => (h.far i hi k (.inr hk)).2.2.1⟩, ⟨#[], 0, h.map, rfl, (fun x hx => by cases hx), List.nodup_nil⟩, GoodQ.nil gS n0 d0, fun _ => Iff.rfl, fun _ => Iff.rfl, fun ad e => (h.own.lt _ (ob ad e)).2⟩, fun k hk => ?_, fun k hk => ?_⟩
  · have := h.led (plN x) (plN_le ⟨h1, h2⟩)
    rw [key x h1] at this
    exact this
  · have f := h.far i hi k (.inl hk)
    exact ⟨f.2.1, f.2.2.1, fun ad e q => f.2.2.2 (by rw [ob ad e, q])⟩
  · rcases hk with rfl | rfl | ⟨ad, e, rfl⟩ | ⟨i, hi, q⟩
    · exact h.g0
    · exact h.m0
    · exact (h.own.lt _ (ob ad e)).1
    · exact (h.far i hi k (.inl q)).1
  · obtain ⟨i, hi, q⟩ := hk
    exact (h.far i hi k (.inr q)).1
end Go.Proofs.YtbonilmlfelmpaaGreat
namespace Go.Proofs.YtbonilmlfelmpaaGreat
open Go.RowKit Go.Shelf

theorem qNew_noR (a1 : Option Addr) (l1 c1 : Nat) (z1 : List Int) (a2 : Option Addr) (l2 c2 : Nat) (z2 : List Int) (sa : Option Addr) (len sc : Nat) (w : World) (r1 : Row .u32 w a1 l1 c1 z1) (r2 : Row .u32 w a2 l2 c2 z2) (hn : ¬ (Top z1 ∧ Top z2 ∧ z2 ≠ [])) :
    Calls Tryz.prog 8 #[.agg #[.slice a1 l1 c1, .slice a2 l2 c2], .slice sa len sc] w fun z w' => z = .returned (.pointer none) ∧ Below w.heap.size w w' := by
  have R1 := Lib.hid r1; have R2 := Lib.hid r2
  have HN := Lib.hid hn
  have X0 := Box.new w 35 (.slice a1 l1 c1) (.slice a2 l2 c2)
  have B0 := Lib.hid (wbox w (.cells #[.slice a1 l1 c1, .slice a2 l2 c2] 35))
  have x0 := X0.c0; have x1 := X0.c1
  clear r1 r2 hn
  go_enter Tryz.func8, Tryz.ntmps8
  go_wp2_with fail
  refine (qcheck_any a1 l1 c1 z1 a2 l2 c2 z2 _ (R1.out.below B0.out) (R2.out.below B0.out) false ⟨fun h => (by cases h), fun h => absurd h HN.out⟩).mono ?_
  rintro e w1 ⟨rfl, hb⟩
  have B := Lib.hid (below_next B0.out hb)
  clear hb
  go_wp2
  go_ret
  exact ⟨rfl, B.out⟩
theorem qNew_noS (v : Value) (N D : Int) (L b : Nat) (sa : Option Addr) (len sc : Nat) (S : List Sv) (w : World) (hv : Rat w b L v N D) (hD : 0 < D) (hS : RowS w sa len sc S) (hn : ¬ GoodSv S) :
    Calls Tryz.prog 8 #[v, .slice sa len sc] w fun z w' => z = .returned (.pointer none) ∧ Below w.heap.size w w' := by
  obtain ⟨a1, l1, c1, z1, a2, l2, c2, z2, rfl, _⟩ := _root_.id hv
  have V := Lib.hid hv
  have RS := Lib.hid hS
  have HN := Lib.hid hn
  have HD := Lib.hid hD
  have X0 := Box.new w 35 (.slice a1 l1 c1) (.slice a2 l2 c2)
  have B0 := Lib.hid (wbox w (.cells #[.slice a1 l1 c1, .slice a2 l2 c2] 35))
  have x0 := X0.c0; have x1 := X0.c1
  clear hv hS hn hD
  go_enter Tryz.func8, Tryz.ntmps8
  go_wp2_with fail
  refine (qcheck_yes _ N D L b _ (V.out.below B0.out) HD.out).mono ?_
  rintro e w1 ⟨rfl, hb⟩
  have B := Lib.hid (below_next B0.out hb)
  clear hb x0 x1
  go_wp2_with fail
  refine (qcheckS_any sa len sc S _ (RS.out.below B.out) false ⟨fun h => (by cases h), fun h => absurd h HN.out⟩).mono ?_
  rintro e w2 ⟨rfl, hb⟩
  have B := Lib.hid (below_next B.out hb)
  clear hb
  go_wp2
  go_ret
  exact ⟨rfl, B.out⟩
set_option maxRecDepth 20000 in
set_option maxHeartbeats 8000000 in
theorem qNew_yes (v : Value) (N D : Int) (L b : Nat) (sa : Option Addr) (len sc : Nat) (S : List Sv) (w : World) (hv : Rat w b L v N D) (hL : L ≤ 3) (hD : 0 < D) (hS : RowS w sa len sc S) (gS : GoodSv S) :
    Calls Tryz.prog 8 #[v, .slice sa len sc] w fun z w' => ∃ g F A, z = .returned (.pointer (some ⟨g, 0, none⟩)) ∧ HpQ w' g F A S N D [] ∧ From F w.heap.size ∧ From A w.heap.size ∧ Below w.heap.size w w' := by
  obtain ⟨a1, l1, c1, z1, a2, l2, c2, z2, rfl, _, i1, _⟩ := _root_.id hv
  have N0 := Lib.hid (show 0 ≤ N from Is.nonneg (by omega) i1)
  have V := Lib.hid hv
  have RS := Lib.hid hS
  have LN := Lib.hid hS.len
  have GS := Lib.hid gS
  have HD := Lib.hid hD
  have HL := Lib.hid hL
  have ⟨cl1, cl2⟩ := RowF.cap_le hS
  have X0 := Lib.hid (Blk.new w 35 #[.slice a1 l1 c1, .slice a2 l2 c2])
  have B0 := Lib.hid (wbox w (.cells #[.slice a1 l1 c1, .slice a2 l2 c2] 35))
  have x0 := X0.out.cell 0; have x1 := X0.out.cell 1
  simp at x0 x1
  have hmm := @run_makeMap Tryz.prog
  clear hv hS hD hL gS i1
  go_enter Tryz.func8, Tryz.ntmps8
  go_wp2_with fail
  refine (qcheck_yes _ N D L b _ (V.out.below B0.out) HD.out).mono ?_
  rintro e w1 ⟨rfl, hb⟩
  have B := Lib.hid (below_next B0.out hb)
  have X1 := Lib.hid (X0.out.below hb)
  clear hb x0 x1
  go_wp2_with fail
  refine (qcheckS_any sa len sc S _ (RS.out.below B.out) true ⟨fun _ => GS.out, fun _ => rfl⟩).mono ?_
  rintro e w2 ⟨rfl, hb⟩
  have B := Lib.hid (below_next B.out hb)
  have X2 := Lib.hid (X1.out.below hb)
  clear hb
  obtain ⟨W3, hW3⟩ : ∃ W3, (w2.alloc (.map #[] 0)).alloc (.cells #[.slice none 0 0, .map (some w2.heap.size), .pointer none, .pointer none, .pointer none, .pointer none, .pointer none, .pointer none, .pointer none, .pointer none, .pointer none, .pointer none, .pointer none, .pointer none, .pointer none, .pointer none, .pointer none, .pointer none, .pointer none] 72) = W3 := ⟨_, rfl⟩
  have B3 := Lib.hid (show Below w2.heap.size w2 W3 by rw [← hW3]; exact wbox2 _ _ _)
  have G3 := Lib.hid (show Blk W3 72 (w2.heap.size + 1) (cellsT (.slice none 0 0) w2.heap.size (fun _ => .pointer none)) by rw [← hW3]; exact Blk.new2 w2 _ _ _)
  have M3 := Lib.hid (show W3.heap[w2.heap.size]? = some (.map #[] 0) by rw [← hW3]; exact (Below.heap_alloc _ _ _ (by simp)).trans (World.alloc_heap_new w2 _))
  have X3 := Lib.hid (X2.out.below B3.out)
  have BW3 := Lib.hid (below_next B.out B3.out)
  have SZ := Lib.hid B.out.size
  have KEPT := Lib.hid (show ∀ w' : World, Below W3.heap.size W3 w' → w'.cell? ⟨w.heap.size, 0, none⟩ = some (.slice a1 l1 c1) ∧ w'.cell? ⟨w.heap.size, 1, none⟩ = some (.slice a2 l2 c2) from fun w' h => ⟨by have := (X3.out.below h).cell 0; simpa using this, by have := (X3.out.below h).cell 1; simpa using this⟩)
  have BB := Lib.hid (show Below W3.heap.size W3 W3.drew from (Below.refl W3.heap.size W3).drew)
  go_upto_region 4 with fail
  try rw [hW3]
  clear hW3
  go_cut [21] (fun _ wx => ∃ g' F A, NewI w S N D (w2.heap.size + 1) w2.heap.size 0 0 (.slice none 0 0) (fun _ => g') (fun _ => F) (fun _ => A) wx)
  case first =>
    have WB := Lib.hid (show ¬ w.heap.size = w2.heap.size + 1 by have := SZ.out; omega)
    go_region_held3 (fun w' => w'.cell? ⟨w.heap.size, 0, none⟩ = some (.slice a1 l1 c1) ∧ w'.cell? ⟨w.heap.size, 1, none⟩ = some (.slice a2 l2 c2))
      (first | with_reducible exact KEPT.out _ BB.out | exact ⟨(cOther (fun e => WB.out (congrArg Addr.block e).symm)).trans (KEPT.out _ BB.out).1, (cOther (fun e => WB.out (congrArg Addr.block e).symm)).trans (KEPT.out _ BB.out).2⟩)
      (first | (go_at_call 32; (with_reducible refine (fnew_yes _ N D L b _ ((V.out.below BW3.out).below BB.out) HL.out HD.out).mono ?_); rintro e w4 ⟨g', F, A, rfl, hl4, hF4, hA4, hb4⟩; have L4 := Lib.hid hl4; have F4 := Lib.hid hF4; have A4 := Lib.hid hA4; have Q4 := Lib.hid (G3.out.drew.below hb4); have BB := Lib.hid (below_next BB.out hb4); have y2 := Q4.out.cell 2; have f2 := Q4.out.free 2; simp [cellsT] at y2; clear hl4 hF4 hA4 hb4))
    all_goals
      go_wp2_with fail
      go_meet
      exact ⟨g', F, A, NewI.start G3.out M3.out (by omega) (by have := SZ.out; omega) SZ.out BW3.out L4.out F4.out A4.out BB.out⟩
  case rest =>
    obtain ⟨g', F, A, hN⟩ := hcut
    have NI := Lib.hid hN
    obtain ⟨G0, hG0⟩ : ∃ G0 : Nat → Nat, (fun _ => g') = G0 := ⟨_, rfl⟩
    obtain ⟨F0, hF0⟩ : ∃ F0 : Nat → Nat → Prop, (fun _ => F) = F0 := ⟨_, rfl⟩
    obtain ⟨A0, hA0⟩ : ∃ A0 : Nat → Nat → Prop, (fun _ => A) = A0 := ⟨_, rfl⟩
    rw [hG0, hF0, hA0] at NI
    clear hN hG0 hF0 hA0
    go_wp2
    go_loopw [27] (fun u wr => ∃ (i : Nat) (pv : Value) (G : Nat → Nat) (Fs As : Nat → Nat → Prop), u = .int .i64 i ∧ i ≤ len ∧ NewI w S N D (w2.heap.size + 1) w2.heap.size i i pv G Fs As wr) (fun u _ => len - (intOf u).toNat)
    case atStart => exact ⟨0, _, _, _, _, rfl, by omega, NI.out⟩
    case round =>
      obtain ⟨i, pv, G, Fs, As, rfl, il, hI⟩ := hrel
      have I0 := Lib.hid hI
      clear hI
      by_cases go : i < len
      · have t1 : decide (i < len) = true := decide_eq_true go
        have t2 : decide ((i : Int) < (len : Int)) = true := decide_eq_true (by omega)
        obtain ⟨x, hx⟩ : ∃ x, S[i]? = some x := ⟨_, List.getElem?_eq_getElem (by rw [LN.out]; exact go)⟩
        obtain ⟨ba, oa, rfl, hat⟩ := (RS.out.below I0.out.bel).at hx
        have HX := Lib.hid hx
        have SVB := Lib.hid (GS.out.each i x hx)
        have QQ := Lib.hid (show qN S N (i : Int) = x.E ∧ qD S D (i : Int) = x.P from ⟨qN_at N (by omega) (by simpa using hx), qD_at D (by omega) (by simpa using hx)⟩)
        have TK := Lib.hid (show (S.take (i + 1)).map Sv.par = (S.take i).map Sv.par ++ [x.par] by rw [List.take_add_one, hx, List.map_append]; rfl)
        have LI := Lib.hid (show ((S.take i).map Sv.par).length = i by rw [List.length_map, List.length_take, LN.out]; omega)
        have I16 := Lib.hid (show i < 16 by have := GS.out.len; have := LN.out; omega)
        obtain ⟨par, E, P⟩ := x
        have k0 := hat.c0; have k1 := hat.c1; have k2 := hat.c2
        simp only at k0 k1 k2
        have j1 : (i : Int) < (len : Int) := by omega
        have j2 : 0 ≤ (i : Int) := by omega
        have wi : IntKind.i64.wrap ((i : Int) + 1) = (i : Int) + 1 := IntWalk.i64_in _ (by omega)
        clear hx hat
        obtain ⟨W5, hW5⟩ : ∃ W5, wr.alloc (.cells #[.int .i64 par, .int .i64 E, .int .i64 P] 61) = W5 := ⟨_, rfl⟩
        have B5 := Lib.hid (show Below wr.heap.size wr W5 by rw [← hW5]; exact wbox _ _)
        have S5 := Lib.hid (show Blk W5 61 wr.heap.size #[.int .i64 par, .int .i64 E, .int .i64 P] by rw [← hW5]; exact Blk.new _ _ _)
        have I5 := Lib.hid (I0.out.below B5.out)
        have gl := I0.out.blk.lt
        have NG := Lib.hid (show ¬ wr.heap.size = w2.heap.size + 1 by omega)
        go_upto_region 8 with fail
        try rw [hW5]
        clear hW5 k0 k1 k2
        have B6 := Lib.hid (show Below W5.heap.size W5 (W5.alloc (.cells #[.int .i64 par] 3)).drew from (wbox _ _).drew)
        have I6 := Lib.hid (I5.out.below B6.out)
        have H6 := Lib.hid (show (W5.alloc (.cells #[.int .i64 par] 3)).drew.heap[W5.heap.size]? = some (.cells #[.int .i64 par] 3) from World.alloc_heap_new W5 _)
        have Z6 := Lib.hid (show (W5.alloc (.cells #[.int .i64 par] 3)).drew.heap.size = W5.heap.size + 1 by simp)
        have OW := Lib.hid I6.out.own
        have ea0 := I5.out.blk.cell 0
        have eb0 := (I5.out.blk.alloc (.cells #[.int .i64 par] 3)).cell 0
        have ec0 := S5.out.cell 0
        have ed0 := (S5.out.alloc (.cells #[.int .i64 par] 3)).cell 0
        simp [cellsT] at ea0 eb0 ec0 ed0
        have BS := Lib.hid (show w.heap.size ≤ (W5.alloc (.cells #[.int .i64 par] 3)).drew.heap.size from I6.out.bel.size)
        go_cut [40] (fun _ wx => ∃ pv', NewI w S N D (w2.heap.size + 1) w2.heap.size (i + 1) i pv' G Fs As wx ∧ Blk wx 61 wr.heap.size #[.int .i64 par, .int .i64 E, .int .i64 P])
        case first =>
          go_region_law (first
            | (refine step_append_int (w := (W5.alloc (.cells #[.int .i64 par] 3)).drew) rfl _ _ rfl w.heap.size pv ((S.take i).map Sv.par) rfl OW.out W5.heap.size par rfl H6.out BS.out (by have := LI.out; have := I16.out; omega) ?_; intro v1 w3 ho1 hg1 hat1; rw [← TK.out] at ho1; obtain ⟨a3, c3, hv3, _, _⟩ := row_of_owns ho1; obtain ⟨n3, hn3⟩ : ∃ n3, ((S.take (i + 1)).map Sv.par).length = n3 := ⟨_, rfl⟩; rw [hn3] at hv3; subst hv3; have PR := Lib.hid (NewI.parent I6.out hg1 hat1 ho1); have y0 := PR.out.2.cell 0; have f0 := PR.out.2.free 0; simp [cellsT] at y0; have S7 := Lib.hid (show Blk w3 61 wr.heap.size #[.int .i64 par, .int .i64 E, .int .i64 P] from (S5.out.below B6.out).keeps ((Keeps.refl (fun k => pv.ownBlock = some k) _).grown hg1 (fun k e => .inl e)) (fun e => by have := (I0.out.own.lt _ e).2; omega)); clear ho1 hg1 hat1))
          all_goals
            go_wp2_with fail
            go_meet
            exact ⟨_, PR.out.1, S7.out.keeps (F := fun k => k = w2.heap.size + 1) ((Keeps.refl (fun k => k = w2.heap.size + 1) w3).set (.inl rfl) _ _) NG.out⟩
        case rest =>
          obtain ⟨pv', hI8, hS8⟩ := hcut
          have I8 := Lib.hid hI8
          have S8 := Lib.hid hS8
          have BW8 := Lib.hid hI8.bel
          have E0 := Lib.hid (show 0 ≤ E by have := SVB.out; simp only at this; omega)
          have E1 := Lib.hid (show E < 4294967296 by have := SVB.out; simp only at this; omega)
          have P0 := Lib.hid (show 1 ≤ P by have := SVB.out; simp only at this; omega)
          have P1 := Lib.hid (show P < 4294967296 by have := SVB.out; simp only at this; omega)
          have QN := Lib.hid (show qN S N (i : Int) = E from QQ.out.1)
          have QD := Lib.hid (show qD S D (i : Int) = P from QQ.out.2)
          have wi2 : IntKind.i64.wrap (1 + (i : Int)) = ((i + 1 : Nat) : Int) := by rw [IntWalk.i64_in _ (by omega)]; omega
          have j3 : ((i + 1 : Nat) : Int) < 17 := by have := I16.out; omega
          have j4 : 0 ≤ ((i + 1 : Nat) : Int) := by omega
          have KP9 := Lib.hid (show ∀ w' : World, Below wc.heap.size wc w' → w'.cell? ⟨wr.heap.size, 1, none⟩ = some (.int .i64 E) ∧ w'.cell? ⟨wr.heap.size, 2, none⟩ = some (.int .i64 P) from fun w' h => ⟨by have := (S8.out.below h).cell 1; simpa using this, by have := (S8.out.below h).cell 2; simpa using this⟩)
          have BB := Lib.hid (show Below wc.heap.size wc wc.drew from (Below.refl wc.heap.size wc).drew)
          clear hI8 hS8 ea0 eb0 ec0 ed0
          obtain ⟨n1, hn1⟩ : ∃ n1 : Nat, i + 1 = n1 := ⟨_, rfl⟩
          rw [hn1] at wi2 j3 j4
          have HN1 := Lib.hid hn1
          clear hn1
          go_upto_region 9 with fail
          go_region_held3 (fun w' => w'.cell? ⟨wr.heap.size, 1, none⟩ = some (.int .i64 E) ∧ w'.cell? ⟨wr.heap.size, 2, none⟩ = some (.int .i64 P))
            (first | with_reducible exact KP9.out _ BB.out | exact ⟨(cOther (fun e => NG.out (congrArg Addr.block e).symm)).trans (KP9.out _ BB.out).1, (cOther (fun e => NG.out (congrArg Addr.block e).symm)).trans (KP9.out _ BB.out).2⟩)
            (first
              | (go_at_call 33; (with_reducible refine (qof_any E P _ E0.out E1.out P0.out P1.out).mono ?_); rintro e w5 ⟨vv, rfl, hr5, hb5⟩; have V5 := Lib.hid hr5; have BB := Lib.hid (below_next BB.out hb5); clear hr5 hb5)
              | (go_at_call 32; (with_reducible refine (fnew_yes vv E P _ 0 _ V5.out (by omega) (by have := P0.out; omega)).mono ?_); rintro e w6 ⟨g6, F6, A6, rfl, hl6, hF6, hA6, hb6⟩; have L6 := Lib.hid hl6; have F6' := Lib.hid hF6; have A6' := Lib.hid hA6; have NB := Lib.hid hb6; have I9 := Lib.hid (I8.out.below BB.out); have BB := Lib.hid (below_next BB.out hb6); have y9 := (I8.out.below BB.out).blk.cell (2 + n1); have f9 := (I8.out.below BB.out).blk.free (2 + n1); rw [cellsT_led _ _ _ (show n1 < 17 by omega), if_neg (show ¬ n1 ≤ i by have := HN1.out; omega)] at y9; clear hl6 hF6 hA6 hb6))
          all_goals
            have NW := Lib.hid (show ∃ G' Fs' As', NewI w S N D (w2.heap.size + 1) w2.heap.size (i + 1) (i + 1) pv' G' Fs' As' (w6.setCell ⟨w2.heap.size + 1, 2 + n1, none⟩ (.pointer (some ⟨g6, 0, none⟩))) by
              have := NewI.ledger I9.out I16.out (by rw [QN.out, QD.out]; exact L6.out) F6'.out A6'.out NB.out
              rw [HN1.out] at this ⊢
              exact ⟨_, _, _, this⟩)
            go_wp2
            go_roundw
            case rel =>
              obtain ⟨G', Fs', As', hI9⟩ := NW.out
              exact ⟨i + 1, _, _, _, _, by go_num, by omega, hI9⟩
            case measure => simp [intOf]; omega
      · have t1 : decide (i < len) = false := decide_eq_false go
        have t2 : decide ((i : Int) < (len : Int)) = false := decide_eq_false (by omega)
        have IL := Lib.hid (show i = S.length by rw [LN.out]; omega)
        have LN2 := Lib.hid (show NewI w S N D (w2.heap.size + 1) w2.heap.size S.length S.length pv G Fs As wr by rw [← IL.out]; exact I0.out)
        go_wp2
        go_ret
        obtain ⟨F', A', h1, h2, h3⟩ := LN2.out.done GS.out N0.out HD.out
        exact ⟨_, F', A', rfl, h1, h2, h3, LN2.out.bel⟩
end Go.Proofs.YtbonilmlfelmpaaGreat

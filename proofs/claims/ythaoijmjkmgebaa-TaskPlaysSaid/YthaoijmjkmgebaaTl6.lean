/-
  The walk of TaskOrder, for a package task that is as P10.1 to P10.3 say.
-/
import Derived.Test.YthaoijmjkmgebaaTl2
import Derived.Test.YthaoijmjkmgebaaWr1
namespace Go.Proofs.Ythaoijmjkmgebaa
open Go.RowKit

section
variable {P : Program} {ops : Array Oper} {Q : Exit → Act → World → Prop} {md : Region.Mode} {S : World → Prop}
/-- take number i first: it is wanted -/
theorem takeY {i : Nat} {oi : Oper} {v : Value} {fuel : Nat} {listed : Array Bool} {a : Act} {w : World} (hi : ops[i]? = some oi)
    (hs : Region.noSelect ops = true) (hf : Region.free md ops listed i = true) (hr : (Region.ready md ops listed).contains i = true)
    (hQ : ∀ c a w, Q (.panic c) (a.put oi.dst v) w → Q (.panic c) a w) (hw : Region.wanted oi (yielded ops a.tmps) = true) (hy : ∀ w, S w → (execOp a.eval oi).run P w = .ok (.value v) w) (hS : S w)
    (h : wpAnyH P md ops Q S fuel (listed.setIfInBounds i true) (a.put oi.dst v) w) : wpAnyH P md ops Q S (fuel + 1) listed a w :=
  wpAnyH_take hi hs hf hr hQ (.inl ⟨hw, hy⟩) hS h
/-- .. it is not wanted -/
theorem takeN {i : Nat} {oi : Oper} {fuel : Nat} {listed : Array Bool} {a : Act} {w : World} (hi : ops[i]? = some oi)
    (hs : Region.noSelect ops = true) (hf : Region.free md ops listed i = true) (hr : (Region.ready md ops listed).contains i = true)
    (hQ : ∀ c a w, Q (.panic c) (a.put oi.dst undef) w → Q (.panic c) a w) (hw : Region.wanted oi (yielded ops a.tmps) = false) (hS : S w)
    (h : wpAnyH P md ops Q S fuel (listed.setIfInBounds i true) (a.put oi.dst undef) w) : wpAnyH P md ops Q S (fuel + 1) listed a w :=
  wpAnyH_take hi hs hf hr hQ (.inr ⟨hw, rfl⟩) hS h
end

set_option maxHeartbeats 1000000 in
theorem r4long_yes (E P i v : Int) (w : World) (hM : MayBe E P) (hi : Nth i) (hv : wD E P i - wR E P i = v) :
    Calls Try.prog 28 #[.agg #[.int .i64 E, .int .i64 P], .int .i64 i] w fun e w' => e = .returned (.int .i64 v) ∧ Below w.heap.size w w' := by
  have HM := Lib.hid hM; have HI := Lib.hid hi
  obtain ⟨r0, r1⟩ := wR_fit hM hi.1 hi.2
  obtain ⟨d0, d1⟩ := wD_fit hM hi.1 hi.2
  obtain ⟨R, hR⟩ : ∃ v, wR E P i = v := ⟨_, rfl⟩
  obtain ⟨D, hD⟩ : ∃ v, wD E P i = v := ⟨_, rfl⟩
  rw [hR] at r0 r1 hv
  rw [hD] at d0 d1 hv
  have HR := Lib.hid hR; have HD := Lib.hid hD
  have wv : IntKind.i64.wrap (D - R) = v := by rw [hv]; exact IntWalk.i64_in _ (by omega)
  clear hM hi hR hD hv r0 r1 d0 d1
  have K := Lib.hid (Blk.new w 26 #[Value.int .i64 E, Value.int .i64 P])
  go_enter Try.func28, Try.ntmps28
  go_wp2_with fail
  obtain ⟨W0, hW0⟩ : ∃ W0, w.alloc (.cells #[Value.int .i64 E, Value.int .i64 P] 26) = W0 := ⟨_, rfl⟩
  have B0 := Lib.hid (show Below w.heap.size w W0 from hW0 ▸ wbox _ _)
  rw [hW0] at K
  rw [hW0]
  clear hW0
  have KEPT := Lib.hid (show ∀ w' : World, Below W0.heap.size W0 w' → w'.cell? ⟨w.heap.size, 0, none⟩ = some (.int .i64 E) ∧ w'.cell? ⟨w.heap.size, 1, none⟩ = some (.int .i64 P) from fun w' h => ⟨(K.out.below h).cell 0, (K.out.below h).cell 1⟩)
  have BB := Lib.hid ((Below.refl W0.heap.size W0).drew)
  go_region_held3 (fun w' => w'.cell? ⟨w.heap.size, 0, none⟩ = some (.int .i64 E) ∧ w'.cell? ⟨w.heap.size, 1, none⟩ = some (.int .i64 P)) (exact KEPT.out _ BB.out)
    (first
      | (go_at_call 37; (with_reducible refine (r4deadline_yes E P i D _ HM.out HI.out HD.out).mono ?_); rintro e w1 ⟨rfl, hb⟩; have BB := Lib.hid (below_next BB.out hb); clear hb)
      | (go_at_call 31; (with_reducible refine (r4release_yes E P i R _ HM.out HI.out HR.out).mono ?_); rintro e w2 ⟨rfl, hb⟩; have BB := Lib.hid (below_next BB.out hb); clear hb))
  all_goals
    go_wp2
    go_ret
    exact ⟨rfl, below_next B0.out BB.out⟩

/-- so many have come, one by one -/
structure Ord (E P : Int) (i : Nat) (t : TS) : Prop where
  e : t.E = E
  p : t.P = P
  cut : t.cut = false
  came : t.came = i
  len : t.l.length = i
  done : t.done = 0
  els : ∀ (j : Nat) (s : Sb), t.l[j]? = some s → ∃ o, s = ofV E P ((j : Int) + 1) o ∧ 0 ≤ o ∧ o ≤ t.O
  chain : ∀ (j : Nat) (a b : Sb), t.l[j]? = some a → t.l[j + 1]? = some b → a.D - a.B ≤ b.R ∧ a.D < b.D
theorem ord_zero (E P at_ : Int) (early : Bool) : Ord E P 0 (ts0 E P at_ early) :=
  ⟨rfl, rfl, rfl, rfl, rfl, rfl, fun j s h => by simp [ts0] at h, fun j a b h => by simp [ts0] at h⟩
theorem ord_next {E P : Int} {i : Nat} {t : TS} {at_ : Int} (hM : MayBe E P) (h : Ord E P i t) (g : GoodT t) (h0 : 0 ≤ at_) (h1 : at_ ≤ 1099511627776) (hi : i < 64) : arriveE t at_ 1 = 0 ∧ Ord E P (i + 1) (arriveT t at_ 1) := by
  have e : arriveE t at_ 1 = 0 := by
    unfold arriveE
    rw [if_neg (by simp [ArrOk]; omega), if_neg (by simp [h.cut]), if_neg (by rw [h.len]; omega)]
  refine ⟨e, ?_⟩
  have ha : arriveT t at_ 1 = come1 t at_ := by unfold arriveT; rw [if_pos e]; rfl
  rw [ha]
  have ho := lateO_ge t at_
  have hO := g.O0
  have hl : (come1 t at_).l = t.l ++ [ofV E P ((i : Int) + 1) (lateO t at_)] := by
    show t.l ++ [ofV t.E t.P (t.came + 1) (lateO t at_)] = _
    rw [h.e, h.p, h.came]
  refine ⟨h.e, h.p, h.cut, by show t.came + 1 = _; rw [h.came]; omega, by rw [hl]; simp [h.len], h.done, ?_, ?_⟩
  · intro j s hs
    rw [hl] at hs
    rcases Nat.lt_or_ge j t.l.length with q | q
    · rw [List.getElem?_append_left q] at hs
      obtain ⟨o, e1, e2, e3⟩ := h.els j s hs
      exact ⟨o, e1, e2, by show o ≤ lateO t at_; omega⟩
    · rw [List.getElem?_append_right q] at hs
      have : j - t.l.length = 0 := by
        rcases Nat.eq_zero_or_pos (j - t.l.length) with z | z
        · exact z
        · rw [List.getElem?_eq_none (by simp; omega)] at hs; cases hs
      rw [this] at hs
      simp at hs
      rw [h.len] at q this
      obtain rfl : j = i := by omega
      exact ⟨lateO t at_, hs.symm, by omega, Int.le_refl _⟩
  · intro j a b h2 h3
    rw [hl] at h2 h3
    rcases Nat.lt_or_ge (j + 1) t.l.length with q | q
    · rw [List.getElem?_append_left (by omega)] at h2
      rw [List.getElem?_append_left q] at h3
      exact h.chain j a b h2 h3
    · have hj : j < t.l.length := by
        rcases Nat.lt_or_ge j t.l.length with z | z
        · exact z
        · rw [List.getElem?_eq_none (by simp; omega)] at h3; cases h3
      rw [List.getElem?_append_left hj] at h2
      rw [List.getElem?_append_right q] at h3
      have : j + 1 - t.l.length = 0 := by omega
      rw [this] at h3
      simp at h3
      obtain ⟨o', e1, e2, e3⟩ := h.els j a h2
      have hh := h.len
      obtain rfl : i = j + 1 := by omega
      subst e1
      subst h3
      have n1 := next_release (E := E) (P := P) (i := (j : Int) + 1) hM.1
      have n2 := next_later (E := E) (P := P) (i := (j : Int) + 1) hM.1 hM.2.1
      show (wD E P ((j : Int) + 1) + o') - wB E P ((j : Int) + 1) ≤ wR E P (((j + 1 : Nat) : Int) + 1) + lateO t at_ ∧ wD E P ((j : Int) + 1) + o' < wD E P (((j + 1 : Nat) : Int) + 1) + lateO t at_
      rw [show (((j + 1 : Nat) : Int)) = (j : Int) + 1 by omega]
      omega
/-- j of them have run -/
structure Ran (L : List Sb) (j : Nat) (t : TS) : Prop where
  l : t.l = L.drop j
  done : t.done = j
theorem ran_next {L : List Sb} {j : Nat} {t : TS} {s : Sb} (h : Ran L j t) (hs : L[j]? = some s) : headS t = s ∧ someB t = true ∧ Ran L (j + 1) (runT t) := by
  have hj : j < L.length := by
    rcases Nat.lt_or_ge j L.length with q | q
    · exact q
    · rw [List.getElem?_eq_none q] at hs; cases hs
  have hl : t.l = s :: L.drop (j + 1) := by
    rw [h.l, List.drop_eq_getElem_cons hj]
    rw [List.getElem?_eq_getElem hj] at hs
    simp at hs; rw [hs]
  refine ⟨by simp [headS, hl], by simp [someB, hl], ?_⟩
  unfold runT
  rw [if_pos (by rw [hl]; simp)]
  exact ⟨by show t.l.drop 1 = _; rw [hl]; rfl, by show t.done + 1 = _; rw [h.done]; omega⟩
theorem ran_end {L : List Sb} {t : TS} (h : Ran L L.length t) : someB t = false ∧ runT t = t ∧ headS t = sub0 ∧ (t.l.length : Int) = 0 := by
  have hl : t.l = [] := by rw [h.l]; simp
  refine ⟨by simp [someB, hl], ?_, by simp [headS, hl], by simp [hl]⟩
  unfold runT
  rw [if_neg (by simp [hl])]
section
variable {Hp : World → Nat → (Nat → Prop) → TS → Prop}
set_option maxRecDepth 20000 in
set_option maxHeartbeats 8000000 in
theorem torder_walk (ok : TaskOk Hp) (qa qb : Int) (a : Option Addr) (len cap : Nat) (zs : List Int) (w : World) (hR : Row .i64 w a len cap zs) : Calls Try.prog 4 #[.agg #[.int .i64 qa, .int .i64 qb], .slice a len cap] w fun e w' => e = .returned (.bool true) ∧ Below w.heap.size w w' := by
  have OK := Lib.hid ok
  have A := Lib.hid hR
  have ⟨cl, cu⟩ := hR.cap_le
  clear ok hR
  have Q := Lib.hid (Blk.new w 22 #[Value.int .i64 qa, Value.int .i64 qb])
  go_enter Try.func4, Try.ntmps4
  go_wp2_with fail
  refine (l10awake OK.out _).mono ?_
  rintro e w1 ⟨rfl, hb⟩
  have B := Lib.hid (below_next (wbox _ _) hb)
  have q0 := (Q.out.below hb).cell 0; have q1 := (Q.out.below hb).cell 1
  simp at q0 q1
  clear hb Q
  go_wp2_with fail
  refine (wmade_any qa qb _).mono ?_
  rintro e w2 ⟨E, P, rfl, hM, hb⟩
  have SB := Lib.hid (below_next B.out hb).size
  have B := Lib.hid (below_next (below_next B.out hb) (wbox w2 (.cells #[.int .i64 E, .int .i64 P] 26)))
  have HM := Lib.hid hM
  have K := Lib.hid (Blk.new w2 26 #[Value.int .i64 E, Value.int .i64 P])
  clear hb hM q0 q1
  go_wp2_with fail
  refine (mnewG OK.out (w := w) (fun x => x = w2.heap.size) E P 0 true _ B.out (fun x q => by subst q; simp) (fun x q => by subst q; exact SB.out) HM.out (by omega) (by omega)).mono ?_
  rintro e w3 ⟨g, rfl, hm, hb⟩
  have K := Lib.hid (K.out.below hb)
  have M := Lib.hid hm
  clear hm hb
  obtain ⟨n2, hn2⟩ : ∃ n, w2.heap.size = n := ⟨_, rfl⟩
  rw [hn2] at K M ⊢
  clear hn2 SB B
  go_wp2_with fail
  go_loopw [8, 9, 10] (fun v8 v9 v10 wr => ∃ (i : Nat) (at_ : Int) (t : TS), v10 = .int .i64 (i : Int) ∧ v9 = .int .i64 (i : Int) ∧ v8 = .int .i64 at_ ∧ 0 ≤ at_ ∧ at_ ≤ 64 * (i : Int) ∧ i ≤ len ∧ i ≤ 60 ∧ Ord E P i t ∧ Mine Hp w (fun x => x = n2) g t wr ∧ Blk wr 26 n2 #[.int .i64 E, .int .i64 P]) (fun _ _ v10 _ => len - (intOf v10).toNat)
  case atStart => exact ⟨0, 0, ts0 E P 0 true, rfl, rfl, rfl, by omega, by omega, Nat.zero_le _, by omega, ord_zero _ _ _ _, M.out, K.out⟩
  case round =>
    obtain ⟨i, at_, t, rfl, rfl, rfl, a0, a1, il, i60, ho, hm, hk⟩ := hrel
    have M := Lib.hid hm
    have K := Lib.hid hk
    have OR := Lib.hid ho
    have AW := Lib.hid (A.out.below hm.below)
    clear hm hk ho
    by_cases d1 : i < len ∧ i < 60
    · obtain ⟨d1, d2⟩ := d1
      have t1 : decide ((i : Int) < (len : Int)) = true := by simp; omega
      have t2 : decide ((i : Int) < 60) = true := by simp; omega
      have t2n : decide (i < 60) = true := by simp; omega
      obtain ⟨ba, oa, hab, hc⟩ := AW.out.cell d1
      subst hab
      obtain ⟨z, hz⟩ : ∃ z, zs.getD i 0 = z := ⟨_, rfl⟩
      rw [hz] at hc
      obtain ⟨z63, hz63⟩ : ∃ n1, bits .and .i64 z 63 = n1 := ⟨_, rfl⟩
      have mz := mask_le z 63 (by omega) (by omega)
      rw [hz63] at mz
      have i0 : 0 ≤ (i : Int) := by omega
      have i1 : (i : Int) < (len : Int) := by omega
      have wi : IntKind.i64.wrap ((i : Int) + 1) = (i : Int) + 1 := IntWalk.i64_in _ (by omega)
      obtain ⟨b, hb⟩ : ∃ b, at_ + z63 = b := ⟨_, rfl⟩
      have wb : IntKind.i64.wrap (at_ + z63) = b := by rw [← hb]; exact IntWalk.i64_in _ (by omega)
      have NX := Lib.hid (ord_next (at_ := b) HM.out OR.out (M.out.good OK.out) (by omega) (by omega) (by omega))
      have bb : 0 ≤ b ∧ b ≤ 64 * ((i : Int) + 1) := by omega
      clear hz hb
      go_wp2_with fail
      refine (marrive OK.out g t b 1 M.out (by rw [OR.out.came]; omega)).mono ?_
      rintro e w4 ⟨rfl, hm, hh⟩
      rw [NX.out.1]
      have M := Lib.hid hm
      have K := Lib.hid (hh.blk K.out rfl)
      clear hm hh hc
      go_wp2
      go_roundw
      case rel => exact ⟨i + 1, b, _, by go_num, by go_num, rfl, bb.1, by have := bb.2; omega, by omega, by omega, NX.out.2, M.out, K.out⟩
      case measure => simp [intOf]; omega
    · have LL := Lib.hid OR.out.len
      have tt : ∀ (X : Prop), (¬ i < len → X) → (i < len → ¬ i < 60 → X) → X := fun X h1 h2 => by
        by_cases q : i < len
        · exact h2 q (fun z => d1 ⟨q, z⟩)
        · exact h1 q
      refine tt _ (fun e1 => ?_) (fun e1 e2 => ?_)
      · have t1 : decide ((i : Int) < (len : Int)) = false := by simp; omega
        have t1n : decide (i < len) = false := by simp; omega
        clear tt d1
        obtain ⟨L, hL⟩ : ∃ L, t.l = L := ⟨_, rfl⟩
        have LN := Lib.hid (show L.length = i by rw [← hL]; exact LL.out)
        have EL := Lib.hid (show ∀ (j : Nat) (s : Sb), L[j]? = some s → ∃ o, s = ofV E P ((j : Int) + 1) o ∧ 0 ≤ o ∧ o ≤ 1099511627776 from fun j s h => by
          obtain ⟨o, h1, h2, h3⟩ := OR.out.els j s (by rw [hL]; exact h)
          exact ⟨o, h1, h2, Int.le_trans h3 (M.out.good OK.out).O1⟩)
        have CH := Lib.hid (show ∀ (j : Nat) (a b : Sb), L[j]? = some a → L[j + 1]? = some b → a.D - a.B ≤ b.R ∧ a.D < b.D from fun j a b h1 h2 => OR.out.chain j a b (by rw [hL]; exact h1) (by rw [hL]; exact h2))
        have R0 := Lib.hid (show Ran L 0 t from ⟨by rw [hL]; rfl, OR.out.done⟩)
        have NN := Lib.hid (show i ≤ 60 from i60)
        clear hL OR LL AW
        go_upto_region 16 with fail
        obtain ⟨n3, hn3⟩ : ∃ n, wr.heap.size = n := ⟨_, rfl⟩
        obtain ⟨W3, hW3⟩ : ∃ W3, wr.alloc (.cells #[.int .i64 0, .int .i64 0, .int .i64 0, .int .i64 0, .int .i64 0] 35) = W3 := ⟨_, rfl⟩
        have N23 := Lib.hid (show ¬ n2 = n3 from fun e => absurd (M.out.lies n2 rfl) (by rw [e, ← hn3]; omega))
        have M := Lib.hid (show Mine Hp w (fun x => x = n2 ∨ x = n3) g t W3 by rw [← hW3, ← hn3]; exact M.out.own1 OK.out _)
        have K := Lib.hid (show Blk W3 26 n2 #[.int .i64 E, .int .i64 P] by rw [← hW3]; exact K.out.alloc _)
        have X := Lib.hid (show Blk W3 35 n3 #[.int .i64 sub0.I, .int .i64 sub0.R, .int .i64 sub0.D, .int .i64 sub0.B, .int .i64 sub0.G] by rw [← hW3, ← hn3]; exact Blk.new _ _ _)
        rw [hW3, hn3]
        clear hW3 hn3
        go_wp2
        go_loopw [12] (fun v12 wx => ∃ (j : Nat) (l : Sb) (u : TS), v12 = .int .i64 (j : Int) ∧ j ≤ i ∧ Ran L j u ∧ (0 < j → L[j - 1]? = some l) ∧ Mine Hp w (fun x => x = n2 ∨ x = n3) g u wx ∧ Blk wx 26 n2 #[.int .i64 E, .int .i64 P] ∧ Blk wx 35 n3 #[.int .i64 l.I, .int .i64 l.R, .int .i64 l.D, .int .i64 l.B, .int .i64 l.G]) (fun v12 _ => i - (intOf v12).toNat)
        case atStart => exact ⟨0, sub0, t, rfl, Nat.zero_le _, R0.out, fun h => by omega, M.out, K.out, X.out⟩
        case round =>
          obtain ⟨j, l, u, rfl, jl, hr, hll, hm, hk, hx⟩ := hrel
          have M := Lib.hid hm; have K := Lib.hid hk; have X := Lib.hid hx; have RN := Lib.hid hr; have PR := Lib.hid hll
          clear hm hk hx hr hll
          by_cases ji : j < i
          · have t5 : decide ((j : Int) < (i : Int)) = true := by simp; omega
            have t5n : decide (j < i) = true := by simp; omega
            obtain ⟨s, hs⟩ : ∃ s, L[j]? = some s := ⟨L[j]'(by rw [LN.out]; exact ji), List.getElem?_eq_getElem _⟩
            have RX := Lib.hid (ran_next RN.out hs)
            obtain ⟨so, hso, so0, so1⟩ := EL.out j s hs
            have sI : s.I = (j : Int) + 1 := by rw [hso]; rfl
            have NS := Lib.hid (show Nth s.I from ⟨by omega, by have := NN.out; omega⟩)
            have LG := Lib.hid (show wD E P s.I - wR E P s.I = s.D - s.R by rw [sI, hso]; show _ = (wD E P ((j : Int) + 1) + so) - (wR E P ((j : Int) + 1) + so); omega)
            have BT := Lib.hid (show wB E P s.I = s.B by rw [sI, hso]; rfl)
            have rf := wR_fit HM.out NS.out.1 NS.out.2
            have df := wD_fit HM.out NS.out.1 NS.out.2
            have sR : s.R = wR E P s.I + so := by rw [sI, hso]; rfl
            have sD : s.D = wD E P s.I + so := by rw [sI, hso]; rfl
            have wDR : IntKind.i64.wrap (s.D - s.R) = s.D - s.R := IntWalk.i64_in _ (by omega)
            have wj : IntKind.i64.wrap ((j : Int) + 1) = (j : Int) + 1 := IntWalk.i64_in _ (by omega)
            have eI : (s.I != (j : Int) + 1) = false := by simp [sI]
            have CJ := Lib.hid (show 0 < j → (l.D - l.B ≤ s.R ∧ l.D < s.D) ∧ 0 ≤ l.D ∧ l.D ≤ 4611686018427387904 ∧ 0 ≤ l.B ∧ l.B ≤ 1 from fun h => by
              have hp := PR.out h
              have h1 := CH.out (j - 1) l s hp (by rw [show j - 1 + 1 = j by omega]; exact hs)
              obtain ⟨lo, hlo, lo0, lo1⟩ := EL.out (j - 1) l hp
              have lf := wD_fit (E := E) (P := P) (i := ((j - 1 : Nat) : Int) + 1) HM.out (by omega) (by have := NN.out; omega)
              have lb := wB_bd E P (((j - 1 : Nat) : Int) + 1)
              have lD : l.D = wD E P (((j - 1 : Nat) : Int) + 1) + lo := by rw [hlo]; rfl
              have lB : l.B = wB E P (((j - 1 : Nat) : Int) + 1) := by rw [hlo]; rfl
              exact ⟨h1, by omega, by omega, by omega, by omega⟩)
            have HSj := Lib.hid hs
            have SI := Lib.hid sI
            clear hs hso rf df sR sD sI
            go_wp2_with fail
            refine (mrun OK.out g u M.out (by rw [RN.out.done]; have := NN.out; omega)).mono ?_
            rintro e w5 ⟨rfl, hm, hh⟩
            rw [RX.out.1, RX.out.2.1, show s.v = .agg #[.int .i64 s.I, .int .i64 s.R, .int .i64 s.D, .int .i64 s.B, .int .i64 s.G] from rfl]
            have K := Lib.hid (hh.blk K.out (.inl rfl))
            have X := Lib.hid (hh.blk X.out (.inr rfl))
            have M := Lib.hid (hm.next OK.out (wbox w5 (.cells #[.int .i64 s.I, .int .i64 s.R, .int .i64 s.D, .int .i64 s.B, .int .i64 s.G] 35)))
            clear hm hh
            go_upto_region 20 with fail
            obtain ⟨n5, hn5⟩ : ∃ n, w5.heap.size = n := ⟨_, rfl⟩
            obtain ⟨W5, hW5⟩ : ∃ W5, w5.alloc (.cells #[.int .i64 s.I, .int .i64 s.R, .int .i64 s.D, .int .i64 s.B, .int .i64 s.G] 35) = W5 := ⟨_, rfl⟩
            have S5 := Lib.hid (show Blk W5 35 n5 #[.int .i64 s.I, .int .i64 s.R, .int .i64 s.D, .int .i64 s.B, .int .i64 s.G] by rw [← hW5, ← hn5]; exact Blk.new _ _ _)
            have K := Lib.hid (show Blk W5 26 n2 #[.int .i64 E, .int .i64 P] by rw [← hW5]; exact K.out.alloc _)
            have X := Lib.hid (show Blk W5 35 n3 #[.int .i64 l.I, .int .i64 l.R, .int .i64 l.D, .int .i64 l.B, .int .i64 l.G] by rw [← hW5]; exact X.out.alloc _)
            rw [hW5] at M
            rw [hW5, hn5]
            clear hW5 hn5
            have BL := Lib.hid ((Below.refl W5.heap.size W5).drew)
            by_cases j0 : j = 0
            · have g0 : decide ((0 : Int) < (j : Int)) = false := by simp; omega
              have g0n : decide (0 < j) = false := by simp; omega
              clear j0
              have KEPT := Lib.hid (show ∀ w' : World, Below W5.heap.size W5 w' → w'.cell? ⟨n2, 0, none⟩ = some (.int .i64 E) ∧ w'.cell? ⟨n2, 1, none⟩ = some (.int .i64 P) ∧ w'.cell? ⟨n5, 0, none⟩ = some (.int .i64 s.I) ∧ w'.cell? ⟨n5, 1, none⟩ = some (.int .i64 s.R) ∧ w'.cell? ⟨n5, 2, none⟩ = some (.int .i64 s.D) ∧ w'.cell? ⟨n5, 3, none⟩ = some (.int .i64 s.B) from fun w' h => ⟨(K.out.below h).cell 0, (K.out.below h).cell 1, (S5.out.below h).cell 0, (S5.out.below h).cell 1, (S5.out.below h).cell 2, (S5.out.below h).cell 3⟩)
              refine wp_region_noPanic ?_
              refine wp_region_held_drew (S := fun w' => w'.cell? ⟨n2, 0, none⟩ = some (.int .i64 E) ∧ w'.cell? ⟨n2, 1, none⟩ = some (.int .i64 P) ∧ w'.cell? ⟨n5, 0, none⟩ = some (.int .i64 s.I) ∧ w'.cell? ⟨n5, 1, none⟩ = some (.int .i64 s.R) ∧ w'.cell? ⟨n5, 2, none⟩ = some (.int .i64 s.D) ∧ w'.cell? ⟨n5, 3, none⟩ = some (.int .i64 s.B)) (by kernel_rfl) (KEPT.out _ BL.out) (fun hHeld => ?_)
              refine' takeY (i := 0) (oi := _) (v := _) ?hizp0 (by kernel_rfl) (by kernel_rfl) (by kernel_rfl) (fun _ _ _ h => h) ?hwzp0 ?hyzp0 hHeld ?restzp0
              case hizp0 => (simp only [List.getElem?_toArray, List.getElem?_cons_zero]; rfl)
              case hwzp0 => rfl
              case hyzp0 => (intro w hSw; (try dsimp only at hSw); go_simp; try with_reducible rfl)
              try simp only [Act.put, List.setIfInBounds_toArray, List.set_cons_zero, List.set_cons_succ]
              refine' takeY (i := 1) (oi := _) (v := _) ?hizp1 (by kernel_rfl) (by kernel_rfl) (by kernel_rfl) (fun _ _ _ h => h) ?hwzp1 ?hyzp1 hHeld ?restzp1
              case hizp1 => (simp only [List.getElem?_toArray, List.getElem?_cons_succ, List.getElem?_cons_zero]; rfl)
              case hwzp1 => rfl
              case hyzp1 => (intro w hSw; (try dsimp only at hSw); go_simp; try with_reducible rfl)
              try simp only [Act.put, List.setIfInBounds_toArray, List.set_cons_zero, List.set_cons_succ]
              refine' takeY (i := 2) (oi := _) (v := _) ?hizp2 (by kernel_rfl) (by kernel_rfl) (by kernel_rfl) (fun _ _ _ h => h) ?hwzp2 ?hyzp2 hHeld ?restzp2
              case hizp2 => (simp only [List.getElem?_toArray, List.getElem?_cons_succ, List.getElem?_cons_zero]; rfl)
              case hwzp2 => rfl
              case hyzp2 => (intro w hSw; (try dsimp only at hSw); go_simp; try with_reducible rfl)
              try simp only [Act.put, List.setIfInBounds_toArray, List.set_cons_zero, List.set_cons_succ]
              refine' takeY (i := 3) (oi := _) (v := _) ?hizp3 (by kernel_rfl) (by kernel_rfl) (by kernel_rfl) (fun _ _ _ h => h) ?hwzp3 ?hyzp3 hHeld ?restzp3
              case hizp3 => (simp only [List.getElem?_toArray, List.getElem?_cons_succ, List.getElem?_cons_zero]; rfl)
              case hwzp3 => rfl
              case hyzp3 => (intro w hSw; (try dsimp only at hSw); go_simp; try with_reducible rfl)
              try simp only [Act.put, List.setIfInBounds_toArray, List.set_cons_zero, List.set_cons_succ]
              refine' takeY (i := 4) (oi := _) (v := _) ?hizp4 (by kernel_rfl) (by kernel_rfl) (by kernel_rfl) (fun _ _ _ h => h) ?hwzp4 ?hyzp4 hHeld ?restzp4
              case hizp4 => (simp only [List.getElem?_toArray, List.getElem?_cons_succ, List.getElem?_cons_zero]; rfl)
              case hwzp4 => rfl
              case hyzp4 => (intro w hSw; (try dsimp only at hSw); go_simp; try with_reducible rfl)
              try simp only [Act.put, List.setIfInBounds_toArray, List.set_cons_zero, List.set_cons_succ]
              refine' takeY (i := 5) (oi := _) (v := _) ?hizp5 (by kernel_rfl) (by kernel_rfl) (by kernel_rfl) (fun _ _ _ h => h) ?hwzp5 ?hyzp5 hHeld ?restzp5
              case hizp5 => (simp only [List.getElem?_toArray, List.getElem?_cons_succ, List.getElem?_cons_zero]; rfl)
              case hwzp5 => rfl
              case hyzp5 => (intro w hSw; (try dsimp only at hSw); go_simp; try with_reducible rfl)
              try simp only [Act.put, List.setIfInBounds_toArray, List.set_cons_zero, List.set_cons_succ]
              refine' takeY (i := 6) (oi := _) (v := _) ?hizp6 (by kernel_rfl) (by kernel_rfl) (by kernel_rfl) (fun _ _ _ h => h) ?hwzp6 ?hyzp6 hHeld ?restzp6
              case hizp6 => (simp only [List.getElem?_toArray, List.getElem?_cons_succ, List.getElem?_cons_zero]; rfl)
              case hwzp6 => rfl
              case hyzp6 => (intro w hSw; (try dsimp only at hSw); go_simp; try with_reducible rfl)
              try simp only [Act.put, List.setIfInBounds_toArray, List.set_cons_zero, List.set_cons_succ]
              refine' takeY (i := 7) (oi := _) (v := _) ?hizp7 (by kernel_rfl) (by kernel_rfl) (by kernel_rfl) (fun _ _ _ h => h) ?hwzp7 ?hyzp7 hHeld ?restzp7
              case hizp7 => (simp only [List.getElem?_toArray, List.getElem?_cons_succ, List.getElem?_cons_zero]; rfl)
              case hwzp7 => rfl
              case hyzp7 => (intro w hSw; (try dsimp only at hSw); go_simp; try with_reducible rfl)
              try simp only [Act.put, List.setIfInBounds_toArray, List.set_cons_zero, List.set_cons_succ]
              refine' takeY (i := 8) (oi := _) (v := _) ?hizp8 (by kernel_rfl) (by kernel_rfl) (by kernel_rfl) (fun _ _ _ h => h) ?hwzp8 ?hyzp8 hHeld ?restzp8
              case hizp8 => (simp only [List.getElem?_toArray, List.getElem?_cons_succ, List.getElem?_cons_zero]; rfl)
              case hwzp8 => rfl
              case hyzp8 => (intro w hSw; (try dsimp only at hSw); go_simp; try with_reducible rfl)
              try simp only [Act.put, List.setIfInBounds_toArray, List.set_cons_zero, List.set_cons_succ]
              refine' takeY (i := 9) (oi := _) (v := _) ?hizp9 (by kernel_rfl) (by kernel_rfl) (by kernel_rfl) (fun _ _ _ h => h) ?hwzp9 ?hyzp9 hHeld ?restzp9
              case hizp9 => (simp only [List.getElem?_toArray, List.getElem?_cons_succ, List.getElem?_cons_zero]; rfl)
              case hwzp9 => rfl
              case hyzp9 => (intro w hSw; (try dsimp only at hSw); go_simp; try with_reducible rfl)
              try simp only [Act.put, List.setIfInBounds_toArray, List.set_cons_zero, List.set_cons_succ]
              refine' takeY (i := 10) (oi := _) (v := _) ?hizp10 (by kernel_rfl) (by kernel_rfl) (by kernel_rfl) (fun _ _ _ h => h) ?hwzp10 ?hyzp10 hHeld ?restzp10
              case hizp10 => (simp only [List.getElem?_toArray, List.getElem?_cons_succ, List.getElem?_cons_zero]; rfl)
              case hwzp10 => rfl
              case hyzp10 => (intro w hSw; (try dsimp only at hSw); go_simp; try with_reducible rfl)
              try simp only [Act.put, List.setIfInBounds_toArray, List.set_cons_zero, List.set_cons_succ]
              refine' takeY (i := 11) (oi := _) (v := _) ?hizp11 (by kernel_rfl) (by kernel_rfl) (by kernel_rfl) (fun _ _ _ h => h) ?hwzp11 ?hyzp11 hHeld ?restzp11
              case hizp11 => (simp only [List.getElem?_toArray, List.getElem?_cons_succ, List.getElem?_cons_zero]; rfl)
              case hwzp11 => rfl
              case hyzp11 => (intro w hSw; (try dsimp only at hSw); go_simp; try with_reducible rfl)
              try simp only [Act.put, List.setIfInBounds_toArray, List.set_cons_zero, List.set_cons_succ]
              refine' takeY (i := 12) (oi := _) (v := _) ?hizp12 (by kernel_rfl) (by kernel_rfl) (by kernel_rfl) (fun _ _ _ h => h) ?hwzp12 ?hyzp12 hHeld ?restzp12
              case hizp12 => (simp only [List.getElem?_toArray, List.getElem?_cons_succ, List.getElem?_cons_zero]; rfl)
              case hwzp12 => rfl
              case hyzp12 => (intro w hSw; (try dsimp only at hSw); go_simp; try with_reducible rfl)
              try simp only [Act.put, List.setIfInBounds_toArray, List.set_cons_zero, List.set_cons_succ]
              refine' takeY (i := 13) (oi := _) (v := _) ?hizp13 (by kernel_rfl) (by kernel_rfl) (by kernel_rfl) (fun _ _ _ h => h) ?hwzp13 ?hyzp13 hHeld ?restzp13
              case hizp13 => (simp only [List.getElem?_toArray, List.getElem?_cons_succ, List.getElem?_cons_zero]; rfl)
              case hwzp13 => rfl
              case hyzp13 => (intro w hSw; (try dsimp only at hSw); go_simp; try with_reducible rfl)
              try simp only [Act.put, List.setIfInBounds_toArray, List.set_cons_zero, List.set_cons_succ]
              refine' takeY (i := 14) (oi := _) (v := _) ?hizp14 (by kernel_rfl) (by kernel_rfl) (by kernel_rfl) (fun _ _ _ h => h) ?hwzp14 ?hyzp14 hHeld ?restzp14
              case hizp14 => (simp only [List.getElem?_toArray, List.getElem?_cons_succ, List.getElem?_cons_zero]; rfl)
              case hwzp14 => rfl
              case hyzp14 => (intro w hSw; (try dsimp only at hSw); go_simp; try with_reducible rfl)
              try simp only [Act.put, List.setIfInBounds_toArray, List.set_cons_zero, List.set_cons_succ]
              refine' takeY (i := 15) (oi := _) (v := _) ?hizp15 (by kernel_rfl) (by kernel_rfl) (by kernel_rfl) (fun _ _ _ h => h) ?hwzp15 ?hyzp15 hHeld ?restzp15
              case hizp15 => (simp only [List.getElem?_toArray, List.getElem?_cons_succ, List.getElem?_cons_zero]; rfl)
              case hwzp15 => rfl
              case hyzp15 => (intro w hSw; (try dsimp only at hSw); go_simp; try with_reducible rfl)
              try simp only [Act.put, List.setIfInBounds_toArray, List.set_cons_zero, List.set_cons_succ]
              refine' takeY (i := 16) (oi := _) (v := _) ?hizp16 (by kernel_rfl) (by kernel_rfl) (by kernel_rfl) (fun _ _ _ h => h) ?hwzp16 ?hyzp16 hHeld ?restzp16
              case hizp16 => (simp only [List.getElem?_toArray, List.getElem?_cons_succ, List.getElem?_cons_zero]; rfl)
              case hwzp16 => rfl
              case hyzp16 => (intro w hSw; (try dsimp only at hSw); go_simp; try with_reducible rfl)
              try simp only [Act.put, List.setIfInBounds_toArray, List.set_cons_zero, List.set_cons_succ]
              refine' takeY (i := 17) (oi := _) (v := _) ?hizp17 (by kernel_rfl) (by kernel_rfl) (by kernel_rfl) (fun _ _ _ h => h) ?hwzp17 ?hyzp17 hHeld ?restzp17
              case hizp17 => (simp only [List.getElem?_toArray, List.getElem?_cons_succ, List.getElem?_cons_zero]; rfl)
              case hwzp17 => rfl
              case hyzp17 => (intro w hSw; (try dsimp only at hSw); go_simp; try with_reducible rfl)
              try simp only [Act.put, List.setIfInBounds_toArray, List.set_cons_zero, List.set_cons_succ]
              refine wpAnyH_ready (rs := [18]) (by kernel_rfl) (by simp) ?_
              refine' AllReadyH.cons (o := _) ?hizp18 (fun K hK => ?stepzp18) AllReadyH.nil
              case hizp18 => (simp only [List.getElem?_toArray, List.getElem?_cons_succ, List.getElem?_cons_zero]; rfl)
              go_simp
              (go_at_call 28; (with_reducible refine (r4long_yes E P s.I _ _ HM.out NS.out LG.out).mono ?_); rintro e wa ⟨rfl, hb⟩; have BL := Lib.hid (below_next BL.out hb); clear hb)
              go_wp2_with fail
              clear hHeld
              refine hK.out _ _ (KEPT.out _ BL.out) (fun hHeld => ?_)
              clear hK K
              try simp only [Act.put, List.setIfInBounds_toArray, List.set_cons_zero, List.set_cons_succ]
              refine' takeY (i := 19) (oi := _) (v := _) ?hizp19 (by kernel_rfl) (by kernel_rfl) (by kernel_rfl) (fun _ _ _ h => h) ?hwzp19 ?hyzp19 hHeld ?restzp19
              case hizp19 => (simp only [List.getElem?_toArray, List.getElem?_cons_succ, List.getElem?_cons_zero]; rfl)
              case hwzp19 => rfl
              case hyzp19 => (intro w hSw; (try dsimp only at hSw); go_simp; try with_reducible rfl)
              try simp only [Act.put, List.setIfInBounds_toArray, List.set_cons_zero, List.set_cons_succ]
              refine' takeY (i := 20) (oi := _) (v := _) ?hizp20 (by kernel_rfl) (by kernel_rfl) (by kernel_rfl) (fun _ _ _ h => h) ?hwzp20 ?hyzp20 hHeld ?restzp20
              case hizp20 => (simp only [List.getElem?_toArray, List.getElem?_cons_succ, List.getElem?_cons_zero]; rfl)
              case hwzp20 => rfl
              case hyzp20 => (intro w hSw; (try dsimp only at hSw); go_simp; try with_reducible rfl)
              try simp only [Act.put, List.setIfInBounds_toArray, List.set_cons_zero, List.set_cons_succ]
              refine' takeY (i := 21) (oi := _) (v := _) ?hizp21 (by kernel_rfl) (by kernel_rfl) (by kernel_rfl) (fun _ _ _ h => h) ?hwzp21 ?hyzp21 hHeld ?restzp21
              case hizp21 => (simp only [List.getElem?_toArray, List.getElem?_cons_succ, List.getElem?_cons_zero]; rfl)
              case hwzp21 => rfl
              case hyzp21 => (intro w hSw; (try dsimp only at hSw); go_simp; try with_reducible rfl)
              try simp only [Act.put, List.setIfInBounds_toArray, List.set_cons_zero, List.set_cons_succ]
              refine' takeY (i := 22) (oi := _) (v := _) ?hizp22 (by kernel_rfl) (by kernel_rfl) (by kernel_rfl) (fun _ _ _ h => h) ?hwzp22 ?hyzp22 hHeld ?restzp22
              case hizp22 => (simp only [List.getElem?_toArray, List.getElem?_cons_succ, List.getElem?_cons_zero]; rfl)
              case hwzp22 => rfl
              case hyzp22 => (intro w hSw; (try dsimp only at hSw); go_simp; try with_reducible rfl)
              try simp only [Act.put, List.setIfInBounds_toArray, List.set_cons_zero, List.set_cons_succ]
              refine' takeY (i := 23) (oi := _) (v := _) ?hizp23 (by kernel_rfl) (by kernel_rfl) (by kernel_rfl) (fun _ _ _ h => h) ?hwzp23 ?hyzp23 hHeld ?restzp23
              case hizp23 => (simp only [List.getElem?_toArray, List.getElem?_cons_succ, List.getElem?_cons_zero]; rfl)
              case hwzp23 => rfl
              case hyzp23 => (intro w hSw; (try dsimp only at hSw); go_simp; try with_reducible rfl)
              try simp only [Act.put, List.setIfInBounds_toArray, List.set_cons_zero, List.set_cons_succ]
              refine' takeY (i := 24) (oi := _) (v := _) ?hizp24 (by kernel_rfl) (by kernel_rfl) (by kernel_rfl) (fun _ _ _ h => h) ?hwzp24 ?hyzp24 hHeld ?restzp24
              case hizp24 => (simp only [List.getElem?_toArray, List.getElem?_cons_succ, List.getElem?_cons_zero]; rfl)
              case hwzp24 => rfl
              case hyzp24 => (intro w hSw; (try dsimp only at hSw); go_simp; try with_reducible rfl)
              try simp only [Act.put, List.setIfInBounds_toArray, List.set_cons_zero, List.set_cons_succ]
              refine' takeY (i := 25) (oi := _) (v := _) ?hizp25 (by kernel_rfl) (by kernel_rfl) (by kernel_rfl) (fun _ _ _ h => h) ?hwzp25 ?hyzp25 hHeld ?restzp25
              case hizp25 => (simp only [List.getElem?_toArray, List.getElem?_cons_succ, List.getElem?_cons_zero]; rfl)
              case hwzp25 => rfl
              case hyzp25 => (intro w hSw; (try dsimp only at hSw); go_simp; try with_reducible rfl)
              try simp only [Act.put, List.setIfInBounds_toArray, List.set_cons_zero, List.set_cons_succ]
              refine' takeY (i := 26) (oi := _) (v := _) ?hizp26 (by kernel_rfl) (by kernel_rfl) (by kernel_rfl) (fun _ _ _ h => h) ?hwzp26 ?hyzp26 hHeld ?restzp26
              case hizp26 => (simp only [List.getElem?_toArray, List.getElem?_cons_succ, List.getElem?_cons_zero]; rfl)
              case hwzp26 => rfl
              case hyzp26 => (intro w hSw; (try dsimp only at hSw); go_simp; try with_reducible rfl)
              try simp only [Act.put, List.setIfInBounds_toArray, List.set_cons_zero, List.set_cons_succ]
              refine wpAnyH_ready (rs := [27]) (by kernel_rfl) (by simp) ?_
              refine' AllReadyH.cons (o := _) ?hizp27 (fun K hK => ?stepzp27) AllReadyH.nil
              case hizp27 => (simp only [List.getElem?_toArray, List.getElem?_cons_succ, List.getElem?_cons_zero]; rfl)
              go_simp
              (go_at_call 29; (with_reducible refine (r4bit_yes E P s.I _ _ HM.out NS.out BT.out).mono ?_); rintro e wb ⟨rfl, hb⟩; have BL := Lib.hid (below_next BL.out hb); clear hb)
              go_wp2_with fail
              clear hHeld
              refine hK.out _ _ (KEPT.out _ BL.out) (fun hHeld => ?_)
              clear hK K
              try simp only [Act.put, List.setIfInBounds_toArray, List.set_cons_zero, List.set_cons_succ]
              refine' takeY (i := 28) (oi := _) (v := _) ?hizp28 (by kernel_rfl) (by kernel_rfl) (by kernel_rfl) (fun _ _ _ h => h) ?hwzp28 ?hyzp28 hHeld ?restzp28
              case hizp28 => (simp only [List.getElem?_toArray, List.getElem?_cons_succ, List.getElem?_cons_zero]; rfl)
              case hwzp28 => rfl
              case hyzp28 => (intro w hSw; (try dsimp only at hSw); go_simp; try with_reducible rfl)
              try simp only [Act.put, List.setIfInBounds_toArray, List.set_cons_zero, List.set_cons_succ]
              refine' takeY (i := 29) (oi := _) (v := _) ?hizp29 (by kernel_rfl) (by kernel_rfl) (by kernel_rfl) (fun _ _ _ h => h) ?hwzp29 ?hyzp29 hHeld ?restzp29
              case hizp29 => (simp only [List.getElem?_toArray, List.getElem?_cons_succ, List.getElem?_cons_zero]; rfl)
              case hwzp29 => rfl
              case hyzp29 => (intro w hSw; (try dsimp only at hSw); go_simp; try with_reducible rfl)
              try simp only [Act.put, List.setIfInBounds_toArray, List.set_cons_zero, List.set_cons_succ]
              refine' takeY (i := 30) (oi := _) (v := _) ?hizp30 (by kernel_rfl) (by kernel_rfl) (by kernel_rfl) (fun _ _ _ h => h) ?hwzp30 ?hyzp30 hHeld ?restzp30
              case hizp30 => (simp only [List.getElem?_toArray, List.getElem?_cons_succ, List.getElem?_cons_zero]; rfl)
              case hwzp30 => rfl
              case hyzp30 => (intro w hSw; (try dsimp only at hSw); go_simp; try with_reducible rfl)
              try simp only [Act.put, List.setIfInBounds_toArray, List.set_cons_zero, List.set_cons_succ]
              refine' takeY (i := 31) (oi := _) (v := _) ?hizp31 (by kernel_rfl) (by kernel_rfl) (by kernel_rfl) (fun _ _ _ h => h) ?hwzp31 ?hyzp31 hHeld ?restzp31
              case hizp31 => (simp only [List.getElem?_toArray, List.getElem?_cons_succ, List.getElem?_cons_zero]; rfl)
              case hwzp31 => rfl
              case hyzp31 => (intro w hSw; (try dsimp only at hSw); go_simp; try with_reducible rfl)
              try simp only [Act.put, List.setIfInBounds_toArray, List.set_cons_zero, List.set_cons_succ]
              refine' takeY (i := 32) (oi := _) (v := _) ?hizp32 (by kernel_rfl) (by kernel_rfl) (by kernel_rfl) (fun _ _ _ h => h) ?hwzp32 ?hyzp32 hHeld ?restzp32
              case hizp32 => (simp only [List.getElem?_toArray, List.getElem?_cons_succ, List.getElem?_cons_zero]; rfl)
              case hwzp32 => rfl
              case hyzp32 => (intro w hSw; (try dsimp only at hSw); go_simp; try with_reducible rfl)
              try simp only [Act.put, List.setIfInBounds_toArray, List.set_cons_zero, List.set_cons_succ]
              refine' takeY (i := 33) (oi := _) (v := _) ?hizp33 (by kernel_rfl) (by kernel_rfl) (by kernel_rfl) (fun _ _ _ h => h) ?hwzp33 ?hyzp33 hHeld ?restzp33
              case hizp33 => (simp only [List.getElem?_toArray, List.getElem?_cons_succ, List.getElem?_cons_zero]; rfl)
              case hwzp33 => rfl
              case hyzp33 => (intro w hSw; (try dsimp only at hSw); go_simp; try with_reducible rfl)
              try simp only [Act.put, List.setIfInBounds_toArray, List.set_cons_zero, List.set_cons_succ]
              refine' takeN (i := 34) (oi := _) ?hizp34 (by kernel_rfl) (by kernel_rfl) (by kernel_rfl) (fun _ _ _ h => h) ?hwzp34 hHeld ?restzp34
              case hizp34 => (simp only [List.getElem?_toArray, List.getElem?_cons_succ, List.getElem?_cons_zero]; rfl)
              case hwzp34 => rfl
              try simp only [Act.put, List.setIfInBounds_toArray, List.set_cons_zero, List.set_cons_succ]
              refine' takeN (i := 35) (oi := _) ?hizp35 (by kernel_rfl) (by kernel_rfl) (by kernel_rfl) (fun _ _ _ h => h) ?hwzp35 hHeld ?restzp35
              case hizp35 => (simp only [List.getElem?_toArray, List.getElem?_cons_succ, List.getElem?_cons_zero]; rfl)
              case hwzp35 => rfl
              try simp only [Act.put, List.setIfInBounds_toArray, List.set_cons_zero, List.set_cons_succ]
              refine' takeN (i := 36) (oi := _) ?hizp36 (by kernel_rfl) (by kernel_rfl) (by kernel_rfl) (fun _ _ _ h => h) ?hwzp36 hHeld ?restzp36
              case hizp36 => (simp only [List.getElem?_toArray, List.getElem?_cons_succ, List.getElem?_cons_zero]; rfl)
              case hwzp36 => rfl
              try simp only [Act.put, List.setIfInBounds_toArray, List.set_cons_zero, List.set_cons_succ]
              refine' takeN (i := 37) (oi := _) ?hizp37 (by kernel_rfl) (by kernel_rfl) (by kernel_rfl) (fun _ _ _ h => h) ?hwzp37 hHeld ?restzp37
              case hizp37 => (simp only [List.getElem?_toArray, List.getElem?_cons_succ, List.getElem?_cons_zero]; rfl)
              case hwzp37 => rfl
              try simp only [Act.put, List.setIfInBounds_toArray, List.set_cons_zero, List.set_cons_succ]
              refine' takeN (i := 38) (oi := _) ?hizp38 (by kernel_rfl) (by kernel_rfl) (by kernel_rfl) (fun _ _ _ h => h) ?hwzp38 hHeld ?restzp38
              case hizp38 => (simp only [List.getElem?_toArray, List.getElem?_cons_succ, List.getElem?_cons_zero]; rfl)
              case hwzp38 => rfl
              try simp only [Act.put, List.setIfInBounds_toArray, List.set_cons_zero, List.set_cons_succ]
              refine' takeN (i := 39) (oi := _) ?hizp39 (by kernel_rfl) (by kernel_rfl) (by kernel_rfl) (fun _ _ _ h => h) ?hwzp39 hHeld ?restzp39
              case hizp39 => (simp only [List.getElem?_toArray, List.getElem?_cons_succ, List.getElem?_cons_zero]; rfl)
              case hwzp39 => rfl
              try simp only [Act.put, List.setIfInBounds_toArray, List.set_cons_zero, List.set_cons_succ]
              refine' takeN (i := 40) (oi := _) ?hizp40 (by kernel_rfl) (by kernel_rfl) (by kernel_rfl) (fun _ _ _ h => h) ?hwzp40 hHeld ?restzp40
              case hizp40 => (simp only [List.getElem?_toArray, List.getElem?_cons_succ, List.getElem?_cons_zero]; rfl)
              case hwzp40 => rfl
              try simp only [Act.put, List.setIfInBounds_toArray, List.set_cons_zero, List.set_cons_succ]
              refine' takeN (i := 41) (oi := _) ?hizp41 (by kernel_rfl) (by kernel_rfl) (by kernel_rfl) (fun _ _ _ h => h) ?hwzp41 hHeld ?restzp41
              case hizp41 => (simp only [List.getElem?_toArray, List.getElem?_cons_succ, List.getElem?_cons_zero]; rfl)
              case hwzp41 => rfl
              try simp only [Act.put, List.setIfInBounds_toArray, List.set_cons_zero, List.set_cons_succ]
              refine' takeN (i := 42) (oi := _) ?hizp42 (by kernel_rfl) (by kernel_rfl) (by kernel_rfl) (fun _ _ _ h => h) ?hwzp42 hHeld ?restzp42
              case hizp42 => (simp only [List.getElem?_toArray, List.getElem?_cons_succ, List.getElem?_cons_zero]; rfl)
              case hwzp42 => rfl
              try simp only [Act.put, List.setIfInBounds_toArray, List.set_cons_zero, List.set_cons_succ]
              refine' takeN (i := 43) (oi := _) ?hizp43 (by kernel_rfl) (by kernel_rfl) (by kernel_rfl) (fun _ _ _ h => h) ?hwzp43 hHeld ?restzp43
              case hizp43 => (simp only [List.getElem?_toArray, List.getElem?_cons_succ, List.getElem?_cons_zero]; rfl)
              case hwzp43 => rfl
              try simp only [Act.put, List.setIfInBounds_toArray, List.set_cons_zero, List.set_cons_succ]
              refine' takeN (i := 44) (oi := _) ?hizp44 (by kernel_rfl) (by kernel_rfl) (by kernel_rfl) (fun _ _ _ h => h) ?hwzp44 hHeld ?restzp44
              case hizp44 => (simp only [List.getElem?_toArray, List.getElem?_cons_succ, List.getElem?_cons_zero]; rfl)
              case hwzp44 => rfl
              try simp only [Act.put, List.setIfInBounds_toArray, List.set_cons_zero, List.set_cons_succ]
              refine' takeN (i := 45) (oi := _) ?hizp45 (by kernel_rfl) (by kernel_rfl) (by kernel_rfl) (fun _ _ _ h => h) ?hwzp45 hHeld ?restzp45
              case hizp45 => (simp only [List.getElem?_toArray, List.getElem?_cons_succ, List.getElem?_cons_zero]; rfl)
              case hwzp45 => rfl
              try simp only [Act.put, List.setIfInBounds_toArray, List.set_cons_zero, List.set_cons_succ]
              refine' takeN (i := 46) (oi := _) ?hizp46 (by kernel_rfl) (by kernel_rfl) (by kernel_rfl) (fun _ _ _ h => h) ?hwzp46 hHeld ?restzp46
              case hizp46 => (simp only [List.getElem?_toArray, List.getElem?_cons_succ, List.getElem?_cons_zero]; rfl)
              case hwzp46 => rfl
              try simp only [Act.put, List.setIfInBounds_toArray, List.set_cons_zero, List.set_cons_succ]
              refine' takeN (i := 47) (oi := _) ?hizp47 (by kernel_rfl) (by kernel_rfl) (by kernel_rfl) (fun _ _ _ h => h) ?hwzp47 hHeld ?restzp47
              case hizp47 => (simp only [List.getElem?_toArray, List.getElem?_cons_succ, List.getElem?_cons_zero]; rfl)
              case hwzp47 => rfl
              try simp only [Act.put, List.setIfInBounds_toArray, List.set_cons_zero, List.set_cons_succ]
              refine' takeN (i := 48) (oi := _) ?hizp48 (by kernel_rfl) (by kernel_rfl) (by kernel_rfl) (fun _ _ _ h => h) ?hwzp48 hHeld ?restzp48
              case hizp48 => (simp only [List.getElem?_toArray, List.getElem?_cons_succ, List.getElem?_cons_zero]; rfl)
              case hwzp48 => rfl
              try simp only [Act.put, List.setIfInBounds_toArray, List.set_cons_zero, List.set_cons_succ]
              refine' takeY (i := 49) (oi := _) (v := _) ?hizp49 (by kernel_rfl) (by kernel_rfl) (by kernel_rfl) (fun _ _ _ h => h) ?hwzp49 ?hyzp49 hHeld ?restzp49
              case hizp49 => (simp only [List.getElem?_toArray, List.getElem?_cons_succ, List.getElem?_cons_zero]; rfl)
              case hwzp49 => rfl
              case hyzp49 => (intro w hSw; (try dsimp only at hSw); go_simp; try with_reducible rfl)
              try simp only [Act.put, List.setIfInBounds_toArray, List.set_cons_zero, List.set_cons_succ]
              refine' takeY (i := 50) (oi := _) (v := _) ?hizp50 (by kernel_rfl) (by kernel_rfl) (by kernel_rfl) (fun _ _ _ h => h) ?hwzp50 ?hyzp50 hHeld ?restzp50
              case hizp50 => (simp only [List.getElem?_toArray, List.getElem?_cons_succ, List.getElem?_cons_zero]; rfl)
              case hwzp50 => rfl
              case hyzp50 => (intro w hSw; (try dsimp only at hSw); go_simp; try with_reducible rfl)
              try simp only [Act.put, List.setIfInBounds_toArray, List.set_cons_zero, List.set_cons_succ]
              refine wpAnyH_done (by kernel_rfl) ?_ _
              refine NoPanic.normal ?_
              have M := Lib.hid (M.out.next OK.out BL.out)
              have K := Lib.hid (K.out.below BL.out)
              have X := Lib.hid (X.out.below BL.out)
              have S5 := Lib.hid (S5.out.below BL.out)
              have y0 := S5.out.cell 0; have y1 := S5.out.cell 1; have y2 := S5.out.cell 2; have y3 := S5.out.cell 3; have y4 := S5.out.cell 4
              have x0 := X.out.cell 0; have x1 := X.out.cell 1; have x2 := X.out.cell 2; have x3 := X.out.cell 3; have x4 := X.out.cell 4
              have fx : ∀ q, _root_.Go.World.frozen? _ ⟨n3, q, none⟩ = false := fun q => X.out.free q
              simp at y0 y1 y2 y3 y4 x0 x1 x2 x3 x4
              have KN := Lib.hid (show Ran L (j + 1) (runT u) from RX.out.2.2)
              go_wp2
              go_roundw
              case rel =>
                refine ⟨j + 1, s, _, by go_num, by omega, KN.out, fun _ => HSj.out, M.out.wrote OK.out (G' := fun x => x = n2 ∨ x = n3) (((((Keeps.refl _ _).set (.inl (.inr rfl)) 0 _).set (.inl (.inr rfl)) 1 _).set (.inl (.inr rfl)) 2 _).set (.inl (.inr rfl)) 3 _ |>.set (.inl (.inr rfl)) 4 _) (fun x q => .inl q) (fun x q => by have := M.out.lies x q; simpa using this), ?_, X.out.set5⟩
                exact ((((K.out.other _ _ N23.out).other _ _ N23.out).other _ _ N23.out).other _ _ N23.out).other _ _ N23.out
              case measure => simp [intOf]; omega
            · have g0 : decide ((0 : Int) < (j : Int)) = true := by simp; omega
              have g0n : decide (0 < j) = true := by simp; omega
              have CC := CJ.out (by omega)
              clear j0
              have wl : IntKind.i64.wrap (l.D - l.B) = l.D - l.B := IntWalk.i64_in _ (by omega)
              have g1 : decide (s.R < l.D - l.B) = false := by simp; omega
              have g2 : decide (s.D ≤ l.D) = false := by simp; omega
              have KEPT := Lib.hid (show ∀ w' : World, Below W5.heap.size W5 w' → w'.cell? ⟨n2, 0, none⟩ = some (.int .i64 E) ∧ w'.cell? ⟨n2, 1, none⟩ = some (.int .i64 P) ∧ w'.cell? ⟨n5, 0, none⟩ = some (.int .i64 s.I) ∧ w'.cell? ⟨n5, 1, none⟩ = some (.int .i64 s.R) ∧ w'.cell? ⟨n5, 2, none⟩ = some (.int .i64 s.D) ∧ w'.cell? ⟨n5, 3, none⟩ = some (.int .i64 s.B) ∧ w'.cell? ⟨n3, 2, none⟩ = some (.int .i64 l.D) ∧ w'.cell? ⟨n3, 3, none⟩ = some (.int .i64 l.B) from fun w' h => ⟨(K.out.below h).cell 0, (K.out.below h).cell 1, (S5.out.below h).cell 0, (S5.out.below h).cell 1, (S5.out.below h).cell 2, (S5.out.below h).cell 3, (X.out.below h).cell 2, (X.out.below h).cell 3⟩)
              clear CC
              refine wp_region_noPanic ?_
              refine wp_region_held_drew (S := fun w' => w'.cell? ⟨n2, 0, none⟩ = some (.int .i64 E) ∧ w'.cell? ⟨n2, 1, none⟩ = some (.int .i64 P) ∧ w'.cell? ⟨n5, 0, none⟩ = some (.int .i64 s.I) ∧ w'.cell? ⟨n5, 1, none⟩ = some (.int .i64 s.R) ∧ w'.cell? ⟨n5, 2, none⟩ = some (.int .i64 s.D) ∧ w'.cell? ⟨n5, 3, none⟩ = some (.int .i64 s.B) ∧ w'.cell? ⟨n3, 2, none⟩ = some (.int .i64 l.D) ∧ w'.cell? ⟨n3, 3, none⟩ = some (.int .i64 l.B)) (by kernel_rfl) (KEPT.out _ BL.out) (fun hHeld => ?_)
              refine' takeY (i := 0) (oi := _) (v := _) ?hiyp0 (by kernel_rfl) (by kernel_rfl) (by kernel_rfl) (fun _ _ _ h => h) ?hwyp0 ?hyyp0 hHeld ?restyp0
              case hiyp0 => (simp only [List.getElem?_toArray, List.getElem?_cons_zero]; rfl)
              case hwyp0 => rfl
              case hyyp0 => (intro w hSw; (try dsimp only at hSw); go_simp; try with_reducible rfl)
              try simp only [Act.put, List.setIfInBounds_toArray, List.set_cons_zero, List.set_cons_succ]
              refine' takeY (i := 1) (oi := _) (v := _) ?hiyp1 (by kernel_rfl) (by kernel_rfl) (by kernel_rfl) (fun _ _ _ h => h) ?hwyp1 ?hyyp1 hHeld ?restyp1
              case hiyp1 => (simp only [List.getElem?_toArray, List.getElem?_cons_succ, List.getElem?_cons_zero]; rfl)
              case hwyp1 => rfl
              case hyyp1 => (intro w hSw; (try dsimp only at hSw); go_simp; try with_reducible rfl)
              try simp only [Act.put, List.setIfInBounds_toArray, List.set_cons_zero, List.set_cons_succ]
              refine' takeY (i := 2) (oi := _) (v := _) ?hiyp2 (by kernel_rfl) (by kernel_rfl) (by kernel_rfl) (fun _ _ _ h => h) ?hwyp2 ?hyyp2 hHeld ?restyp2
              case hiyp2 => (simp only [List.getElem?_toArray, List.getElem?_cons_succ, List.getElem?_cons_zero]; rfl)
              case hwyp2 => rfl
              case hyyp2 => (intro w hSw; (try dsimp only at hSw); go_simp; try with_reducible rfl)
              try simp only [Act.put, List.setIfInBounds_toArray, List.set_cons_zero, List.set_cons_succ]
              refine' takeY (i := 3) (oi := _) (v := _) ?hiyp3 (by kernel_rfl) (by kernel_rfl) (by kernel_rfl) (fun _ _ _ h => h) ?hwyp3 ?hyyp3 hHeld ?restyp3
              case hiyp3 => (simp only [List.getElem?_toArray, List.getElem?_cons_succ, List.getElem?_cons_zero]; rfl)
              case hwyp3 => rfl
              case hyyp3 => (intro w hSw; (try dsimp only at hSw); go_simp; try with_reducible rfl)
              try simp only [Act.put, List.setIfInBounds_toArray, List.set_cons_zero, List.set_cons_succ]
              refine' takeY (i := 4) (oi := _) (v := _) ?hiyp4 (by kernel_rfl) (by kernel_rfl) (by kernel_rfl) (fun _ _ _ h => h) ?hwyp4 ?hyyp4 hHeld ?restyp4
              case hiyp4 => (simp only [List.getElem?_toArray, List.getElem?_cons_succ, List.getElem?_cons_zero]; rfl)
              case hwyp4 => rfl
              case hyyp4 => (intro w hSw; (try dsimp only at hSw); go_simp; try with_reducible rfl)
              try simp only [Act.put, List.setIfInBounds_toArray, List.set_cons_zero, List.set_cons_succ]
              refine' takeY (i := 5) (oi := _) (v := _) ?hiyp5 (by kernel_rfl) (by kernel_rfl) (by kernel_rfl) (fun _ _ _ h => h) ?hwyp5 ?hyyp5 hHeld ?restyp5
              case hiyp5 => (simp only [List.getElem?_toArray, List.getElem?_cons_succ, List.getElem?_cons_zero]; rfl)
              case hwyp5 => rfl
              case hyyp5 => (intro w hSw; (try dsimp only at hSw); go_simp; try with_reducible rfl)
              try simp only [Act.put, List.setIfInBounds_toArray, List.set_cons_zero, List.set_cons_succ]
              refine' takeY (i := 6) (oi := _) (v := _) ?hiyp6 (by kernel_rfl) (by kernel_rfl) (by kernel_rfl) (fun _ _ _ h => h) ?hwyp6 ?hyyp6 hHeld ?restyp6
              case hiyp6 => (simp only [List.getElem?_toArray, List.getElem?_cons_succ, List.getElem?_cons_zero]; rfl)
              case hwyp6 => rfl
              case hyyp6 => (intro w hSw; (try dsimp only at hSw); go_simp; try with_reducible rfl)
              try simp only [Act.put, List.setIfInBounds_toArray, List.set_cons_zero, List.set_cons_succ]
              refine' takeY (i := 7) (oi := _) (v := _) ?hiyp7 (by kernel_rfl) (by kernel_rfl) (by kernel_rfl) (fun _ _ _ h => h) ?hwyp7 ?hyyp7 hHeld ?restyp7
              case hiyp7 => (simp only [List.getElem?_toArray, List.getElem?_cons_succ, List.getElem?_cons_zero]; rfl)
              case hwyp7 => rfl
              case hyyp7 => (intro w hSw; (try dsimp only at hSw); go_simp; try with_reducible rfl)
              try simp only [Act.put, List.setIfInBounds_toArray, List.set_cons_zero, List.set_cons_succ]
              refine' takeY (i := 8) (oi := _) (v := _) ?hiyp8 (by kernel_rfl) (by kernel_rfl) (by kernel_rfl) (fun _ _ _ h => h) ?hwyp8 ?hyyp8 hHeld ?restyp8
              case hiyp8 => (simp only [List.getElem?_toArray, List.getElem?_cons_succ, List.getElem?_cons_zero]; rfl)
              case hwyp8 => rfl
              case hyyp8 => (intro w hSw; (try dsimp only at hSw); go_simp; try with_reducible rfl)
              try simp only [Act.put, List.setIfInBounds_toArray, List.set_cons_zero, List.set_cons_succ]
              refine' takeY (i := 9) (oi := _) (v := _) ?hiyp9 (by kernel_rfl) (by kernel_rfl) (by kernel_rfl) (fun _ _ _ h => h) ?hwyp9 ?hyyp9 hHeld ?restyp9
              case hiyp9 => (simp only [List.getElem?_toArray, List.getElem?_cons_succ, List.getElem?_cons_zero]; rfl)
              case hwyp9 => rfl
              case hyyp9 => (intro w hSw; (try dsimp only at hSw); go_simp; try with_reducible rfl)
              try simp only [Act.put, List.setIfInBounds_toArray, List.set_cons_zero, List.set_cons_succ]
              refine' takeY (i := 10) (oi := _) (v := _) ?hiyp10 (by kernel_rfl) (by kernel_rfl) (by kernel_rfl) (fun _ _ _ h => h) ?hwyp10 ?hyyp10 hHeld ?restyp10
              case hiyp10 => (simp only [List.getElem?_toArray, List.getElem?_cons_succ, List.getElem?_cons_zero]; rfl)
              case hwyp10 => rfl
              case hyyp10 => (intro w hSw; (try dsimp only at hSw); go_simp; try with_reducible rfl)
              try simp only [Act.put, List.setIfInBounds_toArray, List.set_cons_zero, List.set_cons_succ]
              refine' takeY (i := 11) (oi := _) (v := _) ?hiyp11 (by kernel_rfl) (by kernel_rfl) (by kernel_rfl) (fun _ _ _ h => h) ?hwyp11 ?hyyp11 hHeld ?restyp11
              case hiyp11 => (simp only [List.getElem?_toArray, List.getElem?_cons_succ, List.getElem?_cons_zero]; rfl)
              case hwyp11 => rfl
              case hyyp11 => (intro w hSw; (try dsimp only at hSw); go_simp; try with_reducible rfl)
              try simp only [Act.put, List.setIfInBounds_toArray, List.set_cons_zero, List.set_cons_succ]
              refine' takeY (i := 12) (oi := _) (v := _) ?hiyp12 (by kernel_rfl) (by kernel_rfl) (by kernel_rfl) (fun _ _ _ h => h) ?hwyp12 ?hyyp12 hHeld ?restyp12
              case hiyp12 => (simp only [List.getElem?_toArray, List.getElem?_cons_succ, List.getElem?_cons_zero]; rfl)
              case hwyp12 => rfl
              case hyyp12 => (intro w hSw; (try dsimp only at hSw); go_simp; try with_reducible rfl)
              try simp only [Act.put, List.setIfInBounds_toArray, List.set_cons_zero, List.set_cons_succ]
              refine' takeY (i := 13) (oi := _) (v := _) ?hiyp13 (by kernel_rfl) (by kernel_rfl) (by kernel_rfl) (fun _ _ _ h => h) ?hwyp13 ?hyyp13 hHeld ?restyp13
              case hiyp13 => (simp only [List.getElem?_toArray, List.getElem?_cons_succ, List.getElem?_cons_zero]; rfl)
              case hwyp13 => rfl
              case hyyp13 => (intro w hSw; (try dsimp only at hSw); go_simp; try with_reducible rfl)
              try simp only [Act.put, List.setIfInBounds_toArray, List.set_cons_zero, List.set_cons_succ]
              refine' takeY (i := 14) (oi := _) (v := _) ?hiyp14 (by kernel_rfl) (by kernel_rfl) (by kernel_rfl) (fun _ _ _ h => h) ?hwyp14 ?hyyp14 hHeld ?restyp14
              case hiyp14 => (simp only [List.getElem?_toArray, List.getElem?_cons_succ, List.getElem?_cons_zero]; rfl)
              case hwyp14 => rfl
              case hyyp14 => (intro w hSw; (try dsimp only at hSw); go_simp; try with_reducible rfl)
              try simp only [Act.put, List.setIfInBounds_toArray, List.set_cons_zero, List.set_cons_succ]
              refine' takeY (i := 15) (oi := _) (v := _) ?hiyp15 (by kernel_rfl) (by kernel_rfl) (by kernel_rfl) (fun _ _ _ h => h) ?hwyp15 ?hyyp15 hHeld ?restyp15
              case hiyp15 => (simp only [List.getElem?_toArray, List.getElem?_cons_succ, List.getElem?_cons_zero]; rfl)
              case hwyp15 => rfl
              case hyyp15 => (intro w hSw; (try dsimp only at hSw); go_simp; try with_reducible rfl)
              try simp only [Act.put, List.setIfInBounds_toArray, List.set_cons_zero, List.set_cons_succ]
              refine' takeY (i := 16) (oi := _) (v := _) ?hiyp16 (by kernel_rfl) (by kernel_rfl) (by kernel_rfl) (fun _ _ _ h => h) ?hwyp16 ?hyyp16 hHeld ?restyp16
              case hiyp16 => (simp only [List.getElem?_toArray, List.getElem?_cons_succ, List.getElem?_cons_zero]; rfl)
              case hwyp16 => rfl
              case hyyp16 => (intro w hSw; (try dsimp only at hSw); go_simp; try with_reducible rfl)
              try simp only [Act.put, List.setIfInBounds_toArray, List.set_cons_zero, List.set_cons_succ]
              refine' takeY (i := 17) (oi := _) (v := _) ?hiyp17 (by kernel_rfl) (by kernel_rfl) (by kernel_rfl) (fun _ _ _ h => h) ?hwyp17 ?hyyp17 hHeld ?restyp17
              case hiyp17 => (simp only [List.getElem?_toArray, List.getElem?_cons_succ, List.getElem?_cons_zero]; rfl)
              case hwyp17 => rfl
              case hyyp17 => (intro w hSw; (try dsimp only at hSw); go_simp; try with_reducible rfl)
              try simp only [Act.put, List.setIfInBounds_toArray, List.set_cons_zero, List.set_cons_succ]
              refine wpAnyH_ready (rs := [18]) (by kernel_rfl) (by simp) ?_
              refine' AllReadyH.cons (o := _) ?hiyp18 (fun K hK => ?stepyp18) AllReadyH.nil
              case hiyp18 => (simp only [List.getElem?_toArray, List.getElem?_cons_succ, List.getElem?_cons_zero]; rfl)
              go_simp
              (go_at_call 28; (with_reducible refine (r4long_yes E P s.I _ _ HM.out NS.out LG.out).mono ?_); rintro e wa ⟨rfl, hb⟩; have BL := Lib.hid (below_next BL.out hb); clear hb)
              go_wp2_with fail
              clear hHeld
              refine hK.out _ _ (KEPT.out _ BL.out) (fun hHeld => ?_)
              clear hK K
              try simp only [Act.put, List.setIfInBounds_toArray, List.set_cons_zero, List.set_cons_succ]
              refine' takeY (i := 19) (oi := _) (v := _) ?hiyp19 (by kernel_rfl) (by kernel_rfl) (by kernel_rfl) (fun _ _ _ h => h) ?hwyp19 ?hyyp19 hHeld ?restyp19
              case hiyp19 => (simp only [List.getElem?_toArray, List.getElem?_cons_succ, List.getElem?_cons_zero]; rfl)
              case hwyp19 => rfl
              case hyyp19 => (intro w hSw; (try dsimp only at hSw); go_simp; try with_reducible rfl)
              try simp only [Act.put, List.setIfInBounds_toArray, List.set_cons_zero, List.set_cons_succ]
              refine' takeY (i := 20) (oi := _) (v := _) ?hiyp20 (by kernel_rfl) (by kernel_rfl) (by kernel_rfl) (fun _ _ _ h => h) ?hwyp20 ?hyyp20 hHeld ?restyp20
              case hiyp20 => (simp only [List.getElem?_toArray, List.getElem?_cons_succ, List.getElem?_cons_zero]; rfl)
              case hwyp20 => rfl
              case hyyp20 => (intro w hSw; (try dsimp only at hSw); go_simp; try with_reducible rfl)
              try simp only [Act.put, List.setIfInBounds_toArray, List.set_cons_zero, List.set_cons_succ]
              refine' takeY (i := 21) (oi := _) (v := _) ?hiyp21 (by kernel_rfl) (by kernel_rfl) (by kernel_rfl) (fun _ _ _ h => h) ?hwyp21 ?hyyp21 hHeld ?restyp21
              case hiyp21 => (simp only [List.getElem?_toArray, List.getElem?_cons_succ, List.getElem?_cons_zero]; rfl)
              case hwyp21 => rfl
              case hyyp21 => (intro w hSw; (try dsimp only at hSw); go_simp; try with_reducible rfl)
              try simp only [Act.put, List.setIfInBounds_toArray, List.set_cons_zero, List.set_cons_succ]
              refine' takeY (i := 22) (oi := _) (v := _) ?hiyp22 (by kernel_rfl) (by kernel_rfl) (by kernel_rfl) (fun _ _ _ h => h) ?hwyp22 ?hyyp22 hHeld ?restyp22
              case hiyp22 => (simp only [List.getElem?_toArray, List.getElem?_cons_succ, List.getElem?_cons_zero]; rfl)
              case hwyp22 => rfl
              case hyyp22 => (intro w hSw; (try dsimp only at hSw); go_simp; try with_reducible rfl)
              try simp only [Act.put, List.setIfInBounds_toArray, List.set_cons_zero, List.set_cons_succ]
              refine' takeY (i := 23) (oi := _) (v := _) ?hiyp23 (by kernel_rfl) (by kernel_rfl) (by kernel_rfl) (fun _ _ _ h => h) ?hwyp23 ?hyyp23 hHeld ?restyp23
              case hiyp23 => (simp only [List.getElem?_toArray, List.getElem?_cons_succ, List.getElem?_cons_zero]; rfl)
              case hwyp23 => rfl
              case hyyp23 => (intro w hSw; (try dsimp only at hSw); go_simp; try with_reducible rfl)
              try simp only [Act.put, List.setIfInBounds_toArray, List.set_cons_zero, List.set_cons_succ]
              refine' takeY (i := 24) (oi := _) (v := _) ?hiyp24 (by kernel_rfl) (by kernel_rfl) (by kernel_rfl) (fun _ _ _ h => h) ?hwyp24 ?hyyp24 hHeld ?restyp24
              case hiyp24 => (simp only [List.getElem?_toArray, List.getElem?_cons_succ, List.getElem?_cons_zero]; rfl)
              case hwyp24 => rfl
              case hyyp24 => (intro w hSw; (try dsimp only at hSw); go_simp; try with_reducible rfl)
              try simp only [Act.put, List.setIfInBounds_toArray, List.set_cons_zero, List.set_cons_succ]
              refine' takeY (i := 25) (oi := _) (v := _) ?hiyp25 (by kernel_rfl) (by kernel_rfl) (by kernel_rfl) (fun _ _ _ h => h) ?hwyp25 ?hyyp25 hHeld ?restyp25
              case hiyp25 => (simp only [List.getElem?_toArray, List.getElem?_cons_succ, List.getElem?_cons_zero]; rfl)
              case hwyp25 => rfl
              case hyyp25 => (intro w hSw; (try dsimp only at hSw); go_simp; try with_reducible rfl)
              try simp only [Act.put, List.setIfInBounds_toArray, List.set_cons_zero, List.set_cons_succ]
              refine' takeY (i := 26) (oi := _) (v := _) ?hiyp26 (by kernel_rfl) (by kernel_rfl) (by kernel_rfl) (fun _ _ _ h => h) ?hwyp26 ?hyyp26 hHeld ?restyp26
              case hiyp26 => (simp only [List.getElem?_toArray, List.getElem?_cons_succ, List.getElem?_cons_zero]; rfl)
              case hwyp26 => rfl
              case hyyp26 => (intro w hSw; (try dsimp only at hSw); go_simp; try with_reducible rfl)
              try simp only [Act.put, List.setIfInBounds_toArray, List.set_cons_zero, List.set_cons_succ]
              refine wpAnyH_ready (rs := [27]) (by kernel_rfl) (by simp) ?_
              refine' AllReadyH.cons (o := _) ?hiyp27 (fun K hK => ?stepyp27) AllReadyH.nil
              case hiyp27 => (simp only [List.getElem?_toArray, List.getElem?_cons_succ, List.getElem?_cons_zero]; rfl)
              go_simp
              (go_at_call 29; (with_reducible refine (r4bit_yes E P s.I _ _ HM.out NS.out BT.out).mono ?_); rintro e wb ⟨rfl, hb⟩; have BL := Lib.hid (below_next BL.out hb); clear hb)
              go_wp2_with fail
              clear hHeld
              refine hK.out _ _ (KEPT.out _ BL.out) (fun hHeld => ?_)
              clear hK K
              try simp only [Act.put, List.setIfInBounds_toArray, List.set_cons_zero, List.set_cons_succ]
              refine' takeY (i := 28) (oi := _) (v := _) ?hiyp28 (by kernel_rfl) (by kernel_rfl) (by kernel_rfl) (fun _ _ _ h => h) ?hwyp28 ?hyyp28 hHeld ?restyp28
              case hiyp28 => (simp only [List.getElem?_toArray, List.getElem?_cons_succ, List.getElem?_cons_zero]; rfl)
              case hwyp28 => rfl
              case hyyp28 => (intro w hSw; (try dsimp only at hSw); go_simp; try with_reducible rfl)
              try simp only [Act.put, List.setIfInBounds_toArray, List.set_cons_zero, List.set_cons_succ]
              refine' takeY (i := 29) (oi := _) (v := _) ?hiyp29 (by kernel_rfl) (by kernel_rfl) (by kernel_rfl) (fun _ _ _ h => h) ?hwyp29 ?hyyp29 hHeld ?restyp29
              case hiyp29 => (simp only [List.getElem?_toArray, List.getElem?_cons_succ, List.getElem?_cons_zero]; rfl)
              case hwyp29 => rfl
              case hyyp29 => (intro w hSw; (try dsimp only at hSw); go_simp; try with_reducible rfl)
              try simp only [Act.put, List.setIfInBounds_toArray, List.set_cons_zero, List.set_cons_succ]
              refine' takeY (i := 30) (oi := _) (v := _) ?hiyp30 (by kernel_rfl) (by kernel_rfl) (by kernel_rfl) (fun _ _ _ h => h) ?hwyp30 ?hyyp30 hHeld ?restyp30
              case hiyp30 => (simp only [List.getElem?_toArray, List.getElem?_cons_succ, List.getElem?_cons_zero]; rfl)
              case hwyp30 => rfl
              case hyyp30 => (intro w hSw; (try dsimp only at hSw); go_simp; try with_reducible rfl)
              try simp only [Act.put, List.setIfInBounds_toArray, List.set_cons_zero, List.set_cons_succ]
              refine' takeY (i := 31) (oi := _) (v := _) ?hiyp31 (by kernel_rfl) (by kernel_rfl) (by kernel_rfl) (fun _ _ _ h => h) ?hwyp31 ?hyyp31 hHeld ?restyp31
              case hiyp31 => (simp only [List.getElem?_toArray, List.getElem?_cons_succ, List.getElem?_cons_zero]; rfl)
              case hwyp31 => rfl
              case hyyp31 => (intro w hSw; (try dsimp only at hSw); go_simp; try with_reducible rfl)
              try simp only [Act.put, List.setIfInBounds_toArray, List.set_cons_zero, List.set_cons_succ]
              refine' takeY (i := 32) (oi := _) (v := _) ?hiyp32 (by kernel_rfl) (by kernel_rfl) (by kernel_rfl) (fun _ _ _ h => h) ?hwyp32 ?hyyp32 hHeld ?restyp32
              case hiyp32 => (simp only [List.getElem?_toArray, List.getElem?_cons_succ, List.getElem?_cons_zero]; rfl)
              case hwyp32 => rfl
              case hyyp32 => (intro w hSw; (try dsimp only at hSw); go_simp; try with_reducible rfl)
              try simp only [Act.put, List.setIfInBounds_toArray, List.set_cons_zero, List.set_cons_succ]
              refine' takeY (i := 33) (oi := _) (v := _) ?hiyp33 (by kernel_rfl) (by kernel_rfl) (by kernel_rfl) (fun _ _ _ h => h) ?hwyp33 ?hyyp33 hHeld ?restyp33
              case hiyp33 => (simp only [List.getElem?_toArray, List.getElem?_cons_succ, List.getElem?_cons_zero]; rfl)
              case hwyp33 => rfl
              case hyyp33 => (intro w hSw; (try dsimp only at hSw); go_simp; try with_reducible rfl)
              try simp only [Act.put, List.setIfInBounds_toArray, List.set_cons_zero, List.set_cons_succ]
              refine' takeY (i := 34) (oi := _) (v := _) ?hiyp34 (by kernel_rfl) (by kernel_rfl) (by kernel_rfl) (fun _ _ _ h => h) ?hwyp34 ?hyyp34 hHeld ?restyp34
              case hiyp34 => (simp only [List.getElem?_toArray, List.getElem?_cons_succ, List.getElem?_cons_zero]; rfl)
              case hwyp34 => rfl
              case hyyp34 => (intro w hSw; (try dsimp only at hSw); go_simp; try with_reducible rfl)
              try simp only [Act.put, List.setIfInBounds_toArray, List.set_cons_zero, List.set_cons_succ]
              refine' takeY (i := 35) (oi := _) (v := _) ?hiyp35 (by kernel_rfl) (by kernel_rfl) (by kernel_rfl) (fun _ _ _ h => h) ?hwyp35 ?hyyp35 hHeld ?restyp35
              case hiyp35 => (simp only [List.getElem?_toArray, List.getElem?_cons_succ, List.getElem?_cons_zero]; rfl)
              case hwyp35 => rfl
              case hyyp35 => (intro w hSw; (try dsimp only at hSw); go_simp; try with_reducible rfl)
              try simp only [Act.put, List.setIfInBounds_toArray, List.set_cons_zero, List.set_cons_succ]
              refine' takeY (i := 36) (oi := _) (v := _) ?hiyp36 (by kernel_rfl) (by kernel_rfl) (by kernel_rfl) (fun _ _ _ h => h) ?hwyp36 ?hyyp36 hHeld ?restyp36
              case hiyp36 => (simp only [List.getElem?_toArray, List.getElem?_cons_succ, List.getElem?_cons_zero]; rfl)
              case hwyp36 => rfl
              case hyyp36 => (intro w hSw; (try dsimp only at hSw); go_simp; try with_reducible rfl)
              try simp only [Act.put, List.setIfInBounds_toArray, List.set_cons_zero, List.set_cons_succ]
              refine' takeY (i := 37) (oi := _) (v := _) ?hiyp37 (by kernel_rfl) (by kernel_rfl) (by kernel_rfl) (fun _ _ _ h => h) ?hwyp37 ?hyyp37 hHeld ?restyp37
              case hiyp37 => (simp only [List.getElem?_toArray, List.getElem?_cons_succ, List.getElem?_cons_zero]; rfl)
              case hwyp37 => rfl
              case hyyp37 => (intro w hSw; (try dsimp only at hSw); go_simp; try with_reducible rfl)
              try simp only [Act.put, List.setIfInBounds_toArray, List.set_cons_zero, List.set_cons_succ]
              refine' takeY (i := 38) (oi := _) (v := _) ?hiyp38 (by kernel_rfl) (by kernel_rfl) (by kernel_rfl) (fun _ _ _ h => h) ?hwyp38 ?hyyp38 hHeld ?restyp38
              case hiyp38 => (simp only [List.getElem?_toArray, List.getElem?_cons_succ, List.getElem?_cons_zero]; rfl)
              case hwyp38 => rfl
              case hyyp38 => (intro w hSw; (try dsimp only at hSw); go_simp; try with_reducible rfl)
              try simp only [Act.put, List.setIfInBounds_toArray, List.set_cons_zero, List.set_cons_succ]
              refine' takeY (i := 39) (oi := _) (v := _) ?hiyp39 (by kernel_rfl) (by kernel_rfl) (by kernel_rfl) (fun _ _ _ h => h) ?hwyp39 ?hyyp39 hHeld ?restyp39
              case hiyp39 => (simp only [List.getElem?_toArray, List.getElem?_cons_succ, List.getElem?_cons_zero]; rfl)
              case hwyp39 => rfl
              case hyyp39 => (intro w hSw; (try dsimp only at hSw); go_simp; try with_reducible rfl)
              try simp only [Act.put, List.setIfInBounds_toArray, List.set_cons_zero, List.set_cons_succ]
              refine' takeY (i := 40) (oi := _) (v := _) ?hiyp40 (by kernel_rfl) (by kernel_rfl) (by kernel_rfl) (fun _ _ _ h => h) ?hwyp40 ?hyyp40 hHeld ?restyp40
              case hiyp40 => (simp only [List.getElem?_toArray, List.getElem?_cons_succ, List.getElem?_cons_zero]; rfl)
              case hwyp40 => rfl
              case hyyp40 => (intro w hSw; (try dsimp only at hSw); go_simp; try with_reducible rfl)
              try simp only [Act.put, List.setIfInBounds_toArray, List.set_cons_zero, List.set_cons_succ]
              refine' takeY (i := 41) (oi := _) (v := _) ?hiyp41 (by kernel_rfl) (by kernel_rfl) (by kernel_rfl) (fun _ _ _ h => h) ?hwyp41 ?hyyp41 hHeld ?restyp41
              case hiyp41 => (simp only [List.getElem?_toArray, List.getElem?_cons_succ, List.getElem?_cons_zero]; rfl)
              case hwyp41 => rfl
              case hyyp41 => (intro w hSw; (try dsimp only at hSw); go_simp; try with_reducible rfl)
              try simp only [Act.put, List.setIfInBounds_toArray, List.set_cons_zero, List.set_cons_succ]
              refine' takeY (i := 42) (oi := _) (v := _) ?hiyp42 (by kernel_rfl) (by kernel_rfl) (by kernel_rfl) (fun _ _ _ h => h) ?hwyp42 ?hyyp42 hHeld ?restyp42
              case hiyp42 => (simp only [List.getElem?_toArray, List.getElem?_cons_succ, List.getElem?_cons_zero]; rfl)
              case hwyp42 => rfl
              case hyyp42 => (intro w hSw; (try dsimp only at hSw); go_simp; try with_reducible rfl)
              try simp only [Act.put, List.setIfInBounds_toArray, List.set_cons_zero, List.set_cons_succ]
              refine' takeY (i := 43) (oi := _) (v := _) ?hiyp43 (by kernel_rfl) (by kernel_rfl) (by kernel_rfl) (fun _ _ _ h => h) ?hwyp43 ?hyyp43 hHeld ?restyp43
              case hiyp43 => (simp only [List.getElem?_toArray, List.getElem?_cons_succ, List.getElem?_cons_zero]; rfl)
              case hwyp43 => rfl
              case hyyp43 => (intro w hSw; (try dsimp only at hSw); go_simp; try with_reducible rfl)
              try simp only [Act.put, List.setIfInBounds_toArray, List.set_cons_zero, List.set_cons_succ]
              refine' takeY (i := 44) (oi := _) (v := _) ?hiyp44 (by kernel_rfl) (by kernel_rfl) (by kernel_rfl) (fun _ _ _ h => h) ?hwyp44 ?hyyp44 hHeld ?restyp44
              case hiyp44 => (simp only [List.getElem?_toArray, List.getElem?_cons_succ, List.getElem?_cons_zero]; rfl)
              case hwyp44 => rfl
              case hyyp44 => (intro w hSw; (try dsimp only at hSw); go_simp; try with_reducible rfl)
              try simp only [Act.put, List.setIfInBounds_toArray, List.set_cons_zero, List.set_cons_succ]
              refine' takeY (i := 45) (oi := _) (v := _) ?hiyp45 (by kernel_rfl) (by kernel_rfl) (by kernel_rfl) (fun _ _ _ h => h) ?hwyp45 ?hyyp45 hHeld ?restyp45
              case hiyp45 => (simp only [List.getElem?_toArray, List.getElem?_cons_succ, List.getElem?_cons_zero]; rfl)
              case hwyp45 => rfl
              case hyyp45 => (intro w hSw; (try dsimp only at hSw); go_simp; try with_reducible rfl)
              try simp only [Act.put, List.setIfInBounds_toArray, List.set_cons_zero, List.set_cons_succ]
              refine' takeY (i := 46) (oi := _) (v := _) ?hiyp46 (by kernel_rfl) (by kernel_rfl) (by kernel_rfl) (fun _ _ _ h => h) ?hwyp46 ?hyyp46 hHeld ?restyp46
              case hiyp46 => (simp only [List.getElem?_toArray, List.getElem?_cons_succ, List.getElem?_cons_zero]; rfl)
              case hwyp46 => rfl
              case hyyp46 => (intro w hSw; (try dsimp only at hSw); go_simp; try with_reducible rfl)
              try simp only [Act.put, List.setIfInBounds_toArray, List.set_cons_zero, List.set_cons_succ]
              refine' takeY (i := 47) (oi := _) (v := _) ?hiyp47 (by kernel_rfl) (by kernel_rfl) (by kernel_rfl) (fun _ _ _ h => h) ?hwyp47 ?hyyp47 hHeld ?restyp47
              case hiyp47 => (simp only [List.getElem?_toArray, List.getElem?_cons_succ, List.getElem?_cons_zero]; rfl)
              case hwyp47 => rfl
              case hyyp47 => (intro w hSw; (try dsimp only at hSw); go_simp; try with_reducible rfl)
              try simp only [Act.put, List.setIfInBounds_toArray, List.set_cons_zero, List.set_cons_succ]
              refine' takeY (i := 48) (oi := _) (v := _) ?hiyp48 (by kernel_rfl) (by kernel_rfl) (by kernel_rfl) (fun _ _ _ h => h) ?hwyp48 ?hyyp48 hHeld ?restyp48
              case hiyp48 => (simp only [List.getElem?_toArray, List.getElem?_cons_succ, List.getElem?_cons_zero]; rfl)
              case hwyp48 => rfl
              case hyyp48 => (intro w hSw; (try dsimp only at hSw); go_simp; try with_reducible rfl)
              try simp only [Act.put, List.setIfInBounds_toArray, List.set_cons_zero, List.set_cons_succ]
              refine' takeY (i := 49) (oi := _) (v := _) ?hiyp49 (by kernel_rfl) (by kernel_rfl) (by kernel_rfl) (fun _ _ _ h => h) ?hwyp49 ?hyyp49 hHeld ?restyp49
              case hiyp49 => (simp only [List.getElem?_toArray, List.getElem?_cons_succ, List.getElem?_cons_zero]; rfl)
              case hwyp49 => rfl
              case hyyp49 => (intro w hSw; (try dsimp only at hSw); go_simp; try with_reducible rfl)
              try simp only [Act.put, List.setIfInBounds_toArray, List.set_cons_zero, List.set_cons_succ]
              refine' takeY (i := 50) (oi := _) (v := _) ?hiyp50 (by kernel_rfl) (by kernel_rfl) (by kernel_rfl) (fun _ _ _ h => h) ?hwyp50 ?hyyp50 hHeld ?restyp50
              case hiyp50 => (simp only [List.getElem?_toArray, List.getElem?_cons_succ, List.getElem?_cons_zero]; rfl)
              case hwyp50 => rfl
              case hyyp50 => (intro w hSw; (try dsimp only at hSw); go_simp; try with_reducible rfl)
              try simp only [Act.put, List.setIfInBounds_toArray, List.set_cons_zero, List.set_cons_succ]
              refine wpAnyH_done (by kernel_rfl) ?_ _
              refine NoPanic.normal ?_
              have M := Lib.hid (M.out.next OK.out BL.out)
              have K := Lib.hid (K.out.below BL.out)
              have X := Lib.hid (X.out.below BL.out)
              have S5 := Lib.hid (S5.out.below BL.out)
              have y0 := S5.out.cell 0; have y1 := S5.out.cell 1; have y2 := S5.out.cell 2; have y3 := S5.out.cell 3; have y4 := S5.out.cell 4
              have x0 := X.out.cell 0; have x1 := X.out.cell 1; have x2 := X.out.cell 2; have x3 := X.out.cell 3; have x4 := X.out.cell 4
              have fx : ∀ q, _root_.Go.World.frozen? _ ⟨n3, q, none⟩ = false := fun q => X.out.free q
              simp at y0 y1 y2 y3 y4 x0 x1 x2 x3 x4
              have KN := Lib.hid (show Ran L (j + 1) (runT u) from RX.out.2.2)
              go_wp2
              go_roundw
              case rel =>
                refine ⟨j + 1, s, _, by go_num, by omega, KN.out, fun _ => HSj.out, M.out.wrote OK.out (G' := fun x => x = n2 ∨ x = n3) (((((Keeps.refl _ _).set (.inl (.inr rfl)) 0 _).set (.inl (.inr rfl)) 1 _).set (.inl (.inr rfl)) 2 _).set (.inl (.inr rfl)) 3 _ |>.set (.inl (.inr rfl)) 4 _) (fun x q => .inl q) (fun x q => by have := M.out.lies x q; simpa using this), ?_, X.out.set5⟩
                exact ((((K.out.other _ _ N23.out).other _ _ N23.out).other _ _ N23.out).other _ _ N23.out).other _ _ N23.out
              case measure => simp [intOf]; omega
          · have t5 : decide ((j : Int) < (i : Int)) = false := by simp; omega
            have t5n : decide (j < i) = false := by simp; omega
            obtain rfl : j = i := by omega
            have RE := Lib.hid (ran_end (L := L) (t := u) (by rw [LN.out]; exact RN.out))
            go_wp2_with fail
            refine (mrun OK.out g u M.out (by rw [RN.out.done]; have := NN.out; omega)).mono ?_
            rintro e w5 ⟨rfl, hm, hh⟩
            rw [RE.out.1, RE.out.2.2.1, show sub0.v = .agg #[.int .i64 0, .int .i64 0, .int .i64 0, .int .i64 0, .int .i64 0] from rfl]
            rw [RE.out.2.1] at hm
            have M := Lib.hid (hm.next OK.out (wbox w5 (.cells #[.int .i64 0, .int .i64 0, .int .i64 0, .int .i64 0, .int .i64 0] 35)))
            clear hm hh
            go_wp2_with fail
            refine (mdone OK.out g u M.out).mono ?_
            rintro e w6 ⟨rfl, hm, hh⟩
            rw [RN.out.done]
            have M := Lib.hid hm
            clear hm hh
            go_wp2_with fail
            refine (mwaits OK.out g u M.out).mono ?_
            rintro e w7 ⟨rfl, hm, hh⟩
            rw [RE.out.2.2.2]
            have B := Lib.hid hm.below
            clear hm hh
            go_wp2
            go_ret
            exact ⟨rfl, B.out⟩
      · have t1 : decide ((i : Int) < (len : Int)) = true := by simp; omega
        have t1n : decide (i < len) = true := by simp; omega
        have t2 : decide ((i : Int) < 60) = false := by simp; omega
        have t2n : decide (i < 60) = false := by simp; omega
        clear tt d1
        obtain ⟨L, hL⟩ : ∃ L, t.l = L := ⟨_, rfl⟩
        have LN := Lib.hid (show L.length = i by rw [← hL]; exact LL.out)
        have EL := Lib.hid (show ∀ (j : Nat) (s : Sb), L[j]? = some s → ∃ o, s = ofV E P ((j : Int) + 1) o ∧ 0 ≤ o ∧ o ≤ 1099511627776 from fun j s h => by
          obtain ⟨o, h1, h2, h3⟩ := OR.out.els j s (by rw [hL]; exact h)
          exact ⟨o, h1, h2, Int.le_trans h3 (M.out.good OK.out).O1⟩)
        have CH := Lib.hid (show ∀ (j : Nat) (a b : Sb), L[j]? = some a → L[j + 1]? = some b → a.D - a.B ≤ b.R ∧ a.D < b.D from fun j a b h1 h2 => OR.out.chain j a b (by rw [hL]; exact h1) (by rw [hL]; exact h2))
        have R0 := Lib.hid (show Ran L 0 t from ⟨by rw [hL]; rfl, OR.out.done⟩)
        have NN := Lib.hid (show i ≤ 60 from i60)
        clear hL OR LL AW
        go_upto_region 16 with fail
        obtain ⟨n3, hn3⟩ : ∃ n, wr.heap.size = n := ⟨_, rfl⟩
        obtain ⟨W3, hW3⟩ : ∃ W3, wr.alloc (.cells #[.int .i64 0, .int .i64 0, .int .i64 0, .int .i64 0, .int .i64 0] 35) = W3 := ⟨_, rfl⟩
        have N23 := Lib.hid (show ¬ n2 = n3 from fun e => absurd (M.out.lies n2 rfl) (by rw [e, ← hn3]; omega))
        have M := Lib.hid (show Mine Hp w (fun x => x = n2 ∨ x = n3) g t W3 by rw [← hW3, ← hn3]; exact M.out.own1 OK.out _)
        have K := Lib.hid (show Blk W3 26 n2 #[.int .i64 E, .int .i64 P] by rw [← hW3]; exact K.out.alloc _)
        have X := Lib.hid (show Blk W3 35 n3 #[.int .i64 sub0.I, .int .i64 sub0.R, .int .i64 sub0.D, .int .i64 sub0.B, .int .i64 sub0.G] by rw [← hW3, ← hn3]; exact Blk.new _ _ _)
        rw [hW3, hn3]
        clear hW3 hn3
        go_wp2
        go_loopw [12] (fun v12 wx => ∃ (j : Nat) (l : Sb) (u : TS), v12 = .int .i64 (j : Int) ∧ j ≤ i ∧ Ran L j u ∧ (0 < j → L[j - 1]? = some l) ∧ Mine Hp w (fun x => x = n2 ∨ x = n3) g u wx ∧ Blk wx 26 n2 #[.int .i64 E, .int .i64 P] ∧ Blk wx 35 n3 #[.int .i64 l.I, .int .i64 l.R, .int .i64 l.D, .int .i64 l.B, .int .i64 l.G]) (fun v12 _ => i - (intOf v12).toNat)
        case atStart => exact ⟨0, sub0, t, rfl, Nat.zero_le _, R0.out, fun h => by omega, M.out, K.out, X.out⟩
        case round =>
          obtain ⟨j, l, u, rfl, jl, hr, hll, hm, hk, hx⟩ := hrel
          have M := Lib.hid hm; have K := Lib.hid hk; have X := Lib.hid hx; have RN := Lib.hid hr; have PR := Lib.hid hll
          clear hm hk hx hr hll
          by_cases ji : j < i
          · have t5 : decide ((j : Int) < (i : Int)) = true := by simp; omega
            have t5n : decide (j < i) = true := by simp; omega
            obtain ⟨s, hs⟩ : ∃ s, L[j]? = some s := ⟨L[j]'(by rw [LN.out]; exact ji), List.getElem?_eq_getElem _⟩
            have RX := Lib.hid (ran_next RN.out hs)
            obtain ⟨so, hso, so0, so1⟩ := EL.out j s hs
            have sI : s.I = (j : Int) + 1 := by rw [hso]; rfl
            have NS := Lib.hid (show Nth s.I from ⟨by omega, by have := NN.out; omega⟩)
            have LG := Lib.hid (show wD E P s.I - wR E P s.I = s.D - s.R by rw [sI, hso]; show _ = (wD E P ((j : Int) + 1) + so) - (wR E P ((j : Int) + 1) + so); omega)
            have BT := Lib.hid (show wB E P s.I = s.B by rw [sI, hso]; rfl)
            have rf := wR_fit HM.out NS.out.1 NS.out.2
            have df := wD_fit HM.out NS.out.1 NS.out.2
            have sR : s.R = wR E P s.I + so := by rw [sI, hso]; rfl
            have sD : s.D = wD E P s.I + so := by rw [sI, hso]; rfl
            have wDR : IntKind.i64.wrap (s.D - s.R) = s.D - s.R := IntWalk.i64_in _ (by omega)
            have wj : IntKind.i64.wrap ((j : Int) + 1) = (j : Int) + 1 := IntWalk.i64_in _ (by omega)
            have eI : (s.I != (j : Int) + 1) = false := by simp [sI]
            have CJ := Lib.hid (show 0 < j → (l.D - l.B ≤ s.R ∧ l.D < s.D) ∧ 0 ≤ l.D ∧ l.D ≤ 4611686018427387904 ∧ 0 ≤ l.B ∧ l.B ≤ 1 from fun h => by
              have hp := PR.out h
              have h1 := CH.out (j - 1) l s hp (by rw [show j - 1 + 1 = j by omega]; exact hs)
              obtain ⟨lo, hlo, lo0, lo1⟩ := EL.out (j - 1) l hp
              have lf := wD_fit (E := E) (P := P) (i := ((j - 1 : Nat) : Int) + 1) HM.out (by omega) (by have := NN.out; omega)
              have lb := wB_bd E P (((j - 1 : Nat) : Int) + 1)
              have lD : l.D = wD E P (((j - 1 : Nat) : Int) + 1) + lo := by rw [hlo]; rfl
              have lB : l.B = wB E P (((j - 1 : Nat) : Int) + 1) := by rw [hlo]; rfl
              exact ⟨h1, by omega, by omega, by omega, by omega⟩)
            have HSj := Lib.hid hs
            have SI := Lib.hid sI
            clear hs hso rf df sR sD sI
            go_wp2_with fail
            refine (mrun OK.out g u M.out (by rw [RN.out.done]; have := NN.out; omega)).mono ?_
            rintro e w5 ⟨rfl, hm, hh⟩
            rw [RX.out.1, RX.out.2.1, show s.v = .agg #[.int .i64 s.I, .int .i64 s.R, .int .i64 s.D, .int .i64 s.B, .int .i64 s.G] from rfl]
            have K := Lib.hid (hh.blk K.out (.inl rfl))
            have X := Lib.hid (hh.blk X.out (.inr rfl))
            have M := Lib.hid (hm.next OK.out (wbox w5 (.cells #[.int .i64 s.I, .int .i64 s.R, .int .i64 s.D, .int .i64 s.B, .int .i64 s.G] 35)))
            clear hm hh
            go_upto_region 20 with fail
            obtain ⟨n5, hn5⟩ : ∃ n, w5.heap.size = n := ⟨_, rfl⟩
            obtain ⟨W5, hW5⟩ : ∃ W5, w5.alloc (.cells #[.int .i64 s.I, .int .i64 s.R, .int .i64 s.D, .int .i64 s.B, .int .i64 s.G] 35) = W5 := ⟨_, rfl⟩
            have S5 := Lib.hid (show Blk W5 35 n5 #[.int .i64 s.I, .int .i64 s.R, .int .i64 s.D, .int .i64 s.B, .int .i64 s.G] by rw [← hW5, ← hn5]; exact Blk.new _ _ _)
            have K := Lib.hid (show Blk W5 26 n2 #[.int .i64 E, .int .i64 P] by rw [← hW5]; exact K.out.alloc _)
            have X := Lib.hid (show Blk W5 35 n3 #[.int .i64 l.I, .int .i64 l.R, .int .i64 l.D, .int .i64 l.B, .int .i64 l.G] by rw [← hW5]; exact X.out.alloc _)
            rw [hW5] at M
            rw [hW5, hn5]
            clear hW5 hn5
            have BL := Lib.hid ((Below.refl W5.heap.size W5).drew)
            by_cases j0 : j = 0
            · have g0 : decide ((0 : Int) < (j : Int)) = false := by simp; omega
              have g0n : decide (0 < j) = false := by simp; omega
              clear j0
              have KEPT := Lib.hid (show ∀ w' : World, Below W5.heap.size W5 w' → w'.cell? ⟨n2, 0, none⟩ = some (.int .i64 E) ∧ w'.cell? ⟨n2, 1, none⟩ = some (.int .i64 P) ∧ w'.cell? ⟨n5, 0, none⟩ = some (.int .i64 s.I) ∧ w'.cell? ⟨n5, 1, none⟩ = some (.int .i64 s.R) ∧ w'.cell? ⟨n5, 2, none⟩ = some (.int .i64 s.D) ∧ w'.cell? ⟨n5, 3, none⟩ = some (.int .i64 s.B) from fun w' h => ⟨(K.out.below h).cell 0, (K.out.below h).cell 1, (S5.out.below h).cell 0, (S5.out.below h).cell 1, (S5.out.below h).cell 2, (S5.out.below h).cell 3⟩)
              refine wp_region_noPanic ?_
              refine wp_region_held_drew (S := fun w' => w'.cell? ⟨n2, 0, none⟩ = some (.int .i64 E) ∧ w'.cell? ⟨n2, 1, none⟩ = some (.int .i64 P) ∧ w'.cell? ⟨n5, 0, none⟩ = some (.int .i64 s.I) ∧ w'.cell? ⟨n5, 1, none⟩ = some (.int .i64 s.R) ∧ w'.cell? ⟨n5, 2, none⟩ = some (.int .i64 s.D) ∧ w'.cell? ⟨n5, 3, none⟩ = some (.int .i64 s.B)) (by kernel_rfl) (KEPT.out _ BL.out) (fun hHeld => ?_)
              refine' takeY (i := 0) (oi := _) (v := _) ?hizq0 (by kernel_rfl) (by kernel_rfl) (by kernel_rfl) (fun _ _ _ h => h) ?hwzq0 ?hyzq0 hHeld ?restzq0
              case hizq0 => (simp only [List.getElem?_toArray, List.getElem?_cons_zero]; rfl)
              case hwzq0 => rfl
              case hyzq0 => (intro w hSw; (try dsimp only at hSw); go_simp; try with_reducible rfl)
              try simp only [Act.put, List.setIfInBounds_toArray, List.set_cons_zero, List.set_cons_succ]
              refine' takeY (i := 1) (oi := _) (v := _) ?hizq1 (by kernel_rfl) (by kernel_rfl) (by kernel_rfl) (fun _ _ _ h => h) ?hwzq1 ?hyzq1 hHeld ?restzq1
              case hizq1 => (simp only [List.getElem?_toArray, List.getElem?_cons_succ, List.getElem?_cons_zero]; rfl)
              case hwzq1 => rfl
              case hyzq1 => (intro w hSw; (try dsimp only at hSw); go_simp; try with_reducible rfl)
              try simp only [Act.put, List.setIfInBounds_toArray, List.set_cons_zero, List.set_cons_succ]
              refine' takeY (i := 2) (oi := _) (v := _) ?hizq2 (by kernel_rfl) (by kernel_rfl) (by kernel_rfl) (fun _ _ _ h => h) ?hwzq2 ?hyzq2 hHeld ?restzq2
              case hizq2 => (simp only [List.getElem?_toArray, List.getElem?_cons_succ, List.getElem?_cons_zero]; rfl)
              case hwzq2 => rfl
              case hyzq2 => (intro w hSw; (try dsimp only at hSw); go_simp; try with_reducible rfl)
              try simp only [Act.put, List.setIfInBounds_toArray, List.set_cons_zero, List.set_cons_succ]
              refine' takeY (i := 3) (oi := _) (v := _) ?hizq3 (by kernel_rfl) (by kernel_rfl) (by kernel_rfl) (fun _ _ _ h => h) ?hwzq3 ?hyzq3 hHeld ?restzq3
              case hizq3 => (simp only [List.getElem?_toArray, List.getElem?_cons_succ, List.getElem?_cons_zero]; rfl)
              case hwzq3 => rfl
              case hyzq3 => (intro w hSw; (try dsimp only at hSw); go_simp; try with_reducible rfl)
              try simp only [Act.put, List.setIfInBounds_toArray, List.set_cons_zero, List.set_cons_succ]
              refine' takeY (i := 4) (oi := _) (v := _) ?hizq4 (by kernel_rfl) (by kernel_rfl) (by kernel_rfl) (fun _ _ _ h => h) ?hwzq4 ?hyzq4 hHeld ?restzq4
              case hizq4 => (simp only [List.getElem?_toArray, List.getElem?_cons_succ, List.getElem?_cons_zero]; rfl)
              case hwzq4 => rfl
              case hyzq4 => (intro w hSw; (try dsimp only at hSw); go_simp; try with_reducible rfl)
              try simp only [Act.put, List.setIfInBounds_toArray, List.set_cons_zero, List.set_cons_succ]
              refine' takeY (i := 5) (oi := _) (v := _) ?hizq5 (by kernel_rfl) (by kernel_rfl) (by kernel_rfl) (fun _ _ _ h => h) ?hwzq5 ?hyzq5 hHeld ?restzq5
              case hizq5 => (simp only [List.getElem?_toArray, List.getElem?_cons_succ, List.getElem?_cons_zero]; rfl)
              case hwzq5 => rfl
              case hyzq5 => (intro w hSw; (try dsimp only at hSw); go_simp; try with_reducible rfl)
              try simp only [Act.put, List.setIfInBounds_toArray, List.set_cons_zero, List.set_cons_succ]
              refine' takeY (i := 6) (oi := _) (v := _) ?hizq6 (by kernel_rfl) (by kernel_rfl) (by kernel_rfl) (fun _ _ _ h => h) ?hwzq6 ?hyzq6 hHeld ?restzq6
              case hizq6 => (simp only [List.getElem?_toArray, List.getElem?_cons_succ, List.getElem?_cons_zero]; rfl)
              case hwzq6 => rfl
              case hyzq6 => (intro w hSw; (try dsimp only at hSw); go_simp; try with_reducible rfl)
              try simp only [Act.put, List.setIfInBounds_toArray, List.set_cons_zero, List.set_cons_succ]
              refine' takeY (i := 7) (oi := _) (v := _) ?hizq7 (by kernel_rfl) (by kernel_rfl) (by kernel_rfl) (fun _ _ _ h => h) ?hwzq7 ?hyzq7 hHeld ?restzq7
              case hizq7 => (simp only [List.getElem?_toArray, List.getElem?_cons_succ, List.getElem?_cons_zero]; rfl)
              case hwzq7 => rfl
              case hyzq7 => (intro w hSw; (try dsimp only at hSw); go_simp; try with_reducible rfl)
              try simp only [Act.put, List.setIfInBounds_toArray, List.set_cons_zero, List.set_cons_succ]
              refine' takeY (i := 8) (oi := _) (v := _) ?hizq8 (by kernel_rfl) (by kernel_rfl) (by kernel_rfl) (fun _ _ _ h => h) ?hwzq8 ?hyzq8 hHeld ?restzq8
              case hizq8 => (simp only [List.getElem?_toArray, List.getElem?_cons_succ, List.getElem?_cons_zero]; rfl)
              case hwzq8 => rfl
              case hyzq8 => (intro w hSw; (try dsimp only at hSw); go_simp; try with_reducible rfl)
              try simp only [Act.put, List.setIfInBounds_toArray, List.set_cons_zero, List.set_cons_succ]
              refine' takeY (i := 9) (oi := _) (v := _) ?hizq9 (by kernel_rfl) (by kernel_rfl) (by kernel_rfl) (fun _ _ _ h => h) ?hwzq9 ?hyzq9 hHeld ?restzq9
              case hizq9 => (simp only [List.getElem?_toArray, List.getElem?_cons_succ, List.getElem?_cons_zero]; rfl)
              case hwzq9 => rfl
              case hyzq9 => (intro w hSw; (try dsimp only at hSw); go_simp; try with_reducible rfl)
              try simp only [Act.put, List.setIfInBounds_toArray, List.set_cons_zero, List.set_cons_succ]
              refine' takeY (i := 10) (oi := _) (v := _) ?hizq10 (by kernel_rfl) (by kernel_rfl) (by kernel_rfl) (fun _ _ _ h => h) ?hwzq10 ?hyzq10 hHeld ?restzq10
              case hizq10 => (simp only [List.getElem?_toArray, List.getElem?_cons_succ, List.getElem?_cons_zero]; rfl)
              case hwzq10 => rfl
              case hyzq10 => (intro w hSw; (try dsimp only at hSw); go_simp; try with_reducible rfl)
              try simp only [Act.put, List.setIfInBounds_toArray, List.set_cons_zero, List.set_cons_succ]
              refine' takeY (i := 11) (oi := _) (v := _) ?hizq11 (by kernel_rfl) (by kernel_rfl) (by kernel_rfl) (fun _ _ _ h => h) ?hwzq11 ?hyzq11 hHeld ?restzq11
              case hizq11 => (simp only [List.getElem?_toArray, List.getElem?_cons_succ, List.getElem?_cons_zero]; rfl)
              case hwzq11 => rfl
              case hyzq11 => (intro w hSw; (try dsimp only at hSw); go_simp; try with_reducible rfl)
              try simp only [Act.put, List.setIfInBounds_toArray, List.set_cons_zero, List.set_cons_succ]
              refine' takeY (i := 12) (oi := _) (v := _) ?hizq12 (by kernel_rfl) (by kernel_rfl) (by kernel_rfl) (fun _ _ _ h => h) ?hwzq12 ?hyzq12 hHeld ?restzq12
              case hizq12 => (simp only [List.getElem?_toArray, List.getElem?_cons_succ, List.getElem?_cons_zero]; rfl)
              case hwzq12 => rfl
              case hyzq12 => (intro w hSw; (try dsimp only at hSw); go_simp; try with_reducible rfl)
              try simp only [Act.put, List.setIfInBounds_toArray, List.set_cons_zero, List.set_cons_succ]
              refine' takeY (i := 13) (oi := _) (v := _) ?hizq13 (by kernel_rfl) (by kernel_rfl) (by kernel_rfl) (fun _ _ _ h => h) ?hwzq13 ?hyzq13 hHeld ?restzq13
              case hizq13 => (simp only [List.getElem?_toArray, List.getElem?_cons_succ, List.getElem?_cons_zero]; rfl)
              case hwzq13 => rfl
              case hyzq13 => (intro w hSw; (try dsimp only at hSw); go_simp; try with_reducible rfl)
              try simp only [Act.put, List.setIfInBounds_toArray, List.set_cons_zero, List.set_cons_succ]
              refine' takeY (i := 14) (oi := _) (v := _) ?hizq14 (by kernel_rfl) (by kernel_rfl) (by kernel_rfl) (fun _ _ _ h => h) ?hwzq14 ?hyzq14 hHeld ?restzq14
              case hizq14 => (simp only [List.getElem?_toArray, List.getElem?_cons_succ, List.getElem?_cons_zero]; rfl)
              case hwzq14 => rfl
              case hyzq14 => (intro w hSw; (try dsimp only at hSw); go_simp; try with_reducible rfl)
              try simp only [Act.put, List.setIfInBounds_toArray, List.set_cons_zero, List.set_cons_succ]
              refine' takeY (i := 15) (oi := _) (v := _) ?hizq15 (by kernel_rfl) (by kernel_rfl) (by kernel_rfl) (fun _ _ _ h => h) ?hwzq15 ?hyzq15 hHeld ?restzq15
              case hizq15 => (simp only [List.getElem?_toArray, List.getElem?_cons_succ, List.getElem?_cons_zero]; rfl)
              case hwzq15 => rfl
              case hyzq15 => (intro w hSw; (try dsimp only at hSw); go_simp; try with_reducible rfl)
              try simp only [Act.put, List.setIfInBounds_toArray, List.set_cons_zero, List.set_cons_succ]
              refine' takeY (i := 16) (oi := _) (v := _) ?hizq16 (by kernel_rfl) (by kernel_rfl) (by kernel_rfl) (fun _ _ _ h => h) ?hwzq16 ?hyzq16 hHeld ?restzq16
              case hizq16 => (simp only [List.getElem?_toArray, List.getElem?_cons_succ, List.getElem?_cons_zero]; rfl)
              case hwzq16 => rfl
              case hyzq16 => (intro w hSw; (try dsimp only at hSw); go_simp; try with_reducible rfl)
              try simp only [Act.put, List.setIfInBounds_toArray, List.set_cons_zero, List.set_cons_succ]
              refine' takeY (i := 17) (oi := _) (v := _) ?hizq17 (by kernel_rfl) (by kernel_rfl) (by kernel_rfl) (fun _ _ _ h => h) ?hwzq17 ?hyzq17 hHeld ?restzq17
              case hizq17 => (simp only [List.getElem?_toArray, List.getElem?_cons_succ, List.getElem?_cons_zero]; rfl)
              case hwzq17 => rfl
              case hyzq17 => (intro w hSw; (try dsimp only at hSw); go_simp; try with_reducible rfl)
              try simp only [Act.put, List.setIfInBounds_toArray, List.set_cons_zero, List.set_cons_succ]
              refine wpAnyH_ready (rs := [18]) (by kernel_rfl) (by simp) ?_
              refine' AllReadyH.cons (o := _) ?hizq18 (fun K hK => ?stepzq18) AllReadyH.nil
              case hizq18 => (simp only [List.getElem?_toArray, List.getElem?_cons_succ, List.getElem?_cons_zero]; rfl)
              go_simp
              (go_at_call 28; (with_reducible refine (r4long_yes E P s.I _ _ HM.out NS.out LG.out).mono ?_); rintro e wa ⟨rfl, hb⟩; have BL := Lib.hid (below_next BL.out hb); clear hb)
              go_wp2_with fail
              clear hHeld
              refine hK.out _ _ (KEPT.out _ BL.out) (fun hHeld => ?_)
              clear hK K
              try simp only [Act.put, List.setIfInBounds_toArray, List.set_cons_zero, List.set_cons_succ]
              refine' takeY (i := 19) (oi := _) (v := _) ?hizq19 (by kernel_rfl) (by kernel_rfl) (by kernel_rfl) (fun _ _ _ h => h) ?hwzq19 ?hyzq19 hHeld ?restzq19
              case hizq19 => (simp only [List.getElem?_toArray, List.getElem?_cons_succ, List.getElem?_cons_zero]; rfl)
              case hwzq19 => rfl
              case hyzq19 => (intro w hSw; (try dsimp only at hSw); go_simp; try with_reducible rfl)
              try simp only [Act.put, List.setIfInBounds_toArray, List.set_cons_zero, List.set_cons_succ]
              refine' takeY (i := 20) (oi := _) (v := _) ?hizq20 (by kernel_rfl) (by kernel_rfl) (by kernel_rfl) (fun _ _ _ h => h) ?hwzq20 ?hyzq20 hHeld ?restzq20
              case hizq20 => (simp only [List.getElem?_toArray, List.getElem?_cons_succ, List.getElem?_cons_zero]; rfl)
              case hwzq20 => rfl
              case hyzq20 => (intro w hSw; (try dsimp only at hSw); go_simp; try with_reducible rfl)
              try simp only [Act.put, List.setIfInBounds_toArray, List.set_cons_zero, List.set_cons_succ]
              refine' takeY (i := 21) (oi := _) (v := _) ?hizq21 (by kernel_rfl) (by kernel_rfl) (by kernel_rfl) (fun _ _ _ h => h) ?hwzq21 ?hyzq21 hHeld ?restzq21
              case hizq21 => (simp only [List.getElem?_toArray, List.getElem?_cons_succ, List.getElem?_cons_zero]; rfl)
              case hwzq21 => rfl
              case hyzq21 => (intro w hSw; (try dsimp only at hSw); go_simp; try with_reducible rfl)
              try simp only [Act.put, List.setIfInBounds_toArray, List.set_cons_zero, List.set_cons_succ]
              refine' takeY (i := 22) (oi := _) (v := _) ?hizq22 (by kernel_rfl) (by kernel_rfl) (by kernel_rfl) (fun _ _ _ h => h) ?hwzq22 ?hyzq22 hHeld ?restzq22
              case hizq22 => (simp only [List.getElem?_toArray, List.getElem?_cons_succ, List.getElem?_cons_zero]; rfl)
              case hwzq22 => rfl
              case hyzq22 => (intro w hSw; (try dsimp only at hSw); go_simp; try with_reducible rfl)
              try simp only [Act.put, List.setIfInBounds_toArray, List.set_cons_zero, List.set_cons_succ]
              refine' takeY (i := 23) (oi := _) (v := _) ?hizq23 (by kernel_rfl) (by kernel_rfl) (by kernel_rfl) (fun _ _ _ h => h) ?hwzq23 ?hyzq23 hHeld ?restzq23
              case hizq23 => (simp only [List.getElem?_toArray, List.getElem?_cons_succ, List.getElem?_cons_zero]; rfl)
              case hwzq23 => rfl
              case hyzq23 => (intro w hSw; (try dsimp only at hSw); go_simp; try with_reducible rfl)
              try simp only [Act.put, List.setIfInBounds_toArray, List.set_cons_zero, List.set_cons_succ]
              refine' takeY (i := 24) (oi := _) (v := _) ?hizq24 (by kernel_rfl) (by kernel_rfl) (by kernel_rfl) (fun _ _ _ h => h) ?hwzq24 ?hyzq24 hHeld ?restzq24
              case hizq24 => (simp only [List.getElem?_toArray, List.getElem?_cons_succ, List.getElem?_cons_zero]; rfl)
              case hwzq24 => rfl
              case hyzq24 => (intro w hSw; (try dsimp only at hSw); go_simp; try with_reducible rfl)
              try simp only [Act.put, List.setIfInBounds_toArray, List.set_cons_zero, List.set_cons_succ]
              refine' takeY (i := 25) (oi := _) (v := _) ?hizq25 (by kernel_rfl) (by kernel_rfl) (by kernel_rfl) (fun _ _ _ h => h) ?hwzq25 ?hyzq25 hHeld ?restzq25
              case hizq25 => (simp only [List.getElem?_toArray, List.getElem?_cons_succ, List.getElem?_cons_zero]; rfl)
              case hwzq25 => rfl
              case hyzq25 => (intro w hSw; (try dsimp only at hSw); go_simp; try with_reducible rfl)
              try simp only [Act.put, List.setIfInBounds_toArray, List.set_cons_zero, List.set_cons_succ]
              refine' takeY (i := 26) (oi := _) (v := _) ?hizq26 (by kernel_rfl) (by kernel_rfl) (by kernel_rfl) (fun _ _ _ h => h) ?hwzq26 ?hyzq26 hHeld ?restzq26
              case hizq26 => (simp only [List.getElem?_toArray, List.getElem?_cons_succ, List.getElem?_cons_zero]; rfl)
              case hwzq26 => rfl
              case hyzq26 => (intro w hSw; (try dsimp only at hSw); go_simp; try with_reducible rfl)
              try simp only [Act.put, List.setIfInBounds_toArray, List.set_cons_zero, List.set_cons_succ]
              refine wpAnyH_ready (rs := [27]) (by kernel_rfl) (by simp) ?_
              refine' AllReadyH.cons (o := _) ?hizq27 (fun K hK => ?stepzq27) AllReadyH.nil
              case hizq27 => (simp only [List.getElem?_toArray, List.getElem?_cons_succ, List.getElem?_cons_zero]; rfl)
              go_simp
              (go_at_call 29; (with_reducible refine (r4bit_yes E P s.I _ _ HM.out NS.out BT.out).mono ?_); rintro e wb ⟨rfl, hb⟩; have BL := Lib.hid (below_next BL.out hb); clear hb)
              go_wp2_with fail
              clear hHeld
              refine hK.out _ _ (KEPT.out _ BL.out) (fun hHeld => ?_)
              clear hK K
              try simp only [Act.put, List.setIfInBounds_toArray, List.set_cons_zero, List.set_cons_succ]
              refine' takeY (i := 28) (oi := _) (v := _) ?hizq28 (by kernel_rfl) (by kernel_rfl) (by kernel_rfl) (fun _ _ _ h => h) ?hwzq28 ?hyzq28 hHeld ?restzq28
              case hizq28 => (simp only [List.getElem?_toArray, List.getElem?_cons_succ, List.getElem?_cons_zero]; rfl)
              case hwzq28 => rfl
              case hyzq28 => (intro w hSw; (try dsimp only at hSw); go_simp; try with_reducible rfl)
              try simp only [Act.put, List.setIfInBounds_toArray, List.set_cons_zero, List.set_cons_succ]
              refine' takeY (i := 29) (oi := _) (v := _) ?hizq29 (by kernel_rfl) (by kernel_rfl) (by kernel_rfl) (fun _ _ _ h => h) ?hwzq29 ?hyzq29 hHeld ?restzq29
              case hizq29 => (simp only [List.getElem?_toArray, List.getElem?_cons_succ, List.getElem?_cons_zero]; rfl)
              case hwzq29 => rfl
              case hyzq29 => (intro w hSw; (try dsimp only at hSw); go_simp; try with_reducible rfl)
              try simp only [Act.put, List.setIfInBounds_toArray, List.set_cons_zero, List.set_cons_succ]
              refine' takeY (i := 30) (oi := _) (v := _) ?hizq30 (by kernel_rfl) (by kernel_rfl) (by kernel_rfl) (fun _ _ _ h => h) ?hwzq30 ?hyzq30 hHeld ?restzq30
              case hizq30 => (simp only [List.getElem?_toArray, List.getElem?_cons_succ, List.getElem?_cons_zero]; rfl)
              case hwzq30 => rfl
              case hyzq30 => (intro w hSw; (try dsimp only at hSw); go_simp; try with_reducible rfl)
              try simp only [Act.put, List.setIfInBounds_toArray, List.set_cons_zero, List.set_cons_succ]
              refine' takeY (i := 31) (oi := _) (v := _) ?hizq31 (by kernel_rfl) (by kernel_rfl) (by kernel_rfl) (fun _ _ _ h => h) ?hwzq31 ?hyzq31 hHeld ?restzq31
              case hizq31 => (simp only [List.getElem?_toArray, List.getElem?_cons_succ, List.getElem?_cons_zero]; rfl)
              case hwzq31 => rfl
              case hyzq31 => (intro w hSw; (try dsimp only at hSw); go_simp; try with_reducible rfl)
              try simp only [Act.put, List.setIfInBounds_toArray, List.set_cons_zero, List.set_cons_succ]
              refine' takeY (i := 32) (oi := _) (v := _) ?hizq32 (by kernel_rfl) (by kernel_rfl) (by kernel_rfl) (fun _ _ _ h => h) ?hwzq32 ?hyzq32 hHeld ?restzq32
              case hizq32 => (simp only [List.getElem?_toArray, List.getElem?_cons_succ, List.getElem?_cons_zero]; rfl)
              case hwzq32 => rfl
              case hyzq32 => (intro w hSw; (try dsimp only at hSw); go_simp; try with_reducible rfl)
              try simp only [Act.put, List.setIfInBounds_toArray, List.set_cons_zero, List.set_cons_succ]
              refine' takeY (i := 33) (oi := _) (v := _) ?hizq33 (by kernel_rfl) (by kernel_rfl) (by kernel_rfl) (fun _ _ _ h => h) ?hwzq33 ?hyzq33 hHeld ?restzq33
              case hizq33 => (simp only [List.getElem?_toArray, List.getElem?_cons_succ, List.getElem?_cons_zero]; rfl)
              case hwzq33 => rfl
              case hyzq33 => (intro w hSw; (try dsimp only at hSw); go_simp; try with_reducible rfl)
              try simp only [Act.put, List.setIfInBounds_toArray, List.set_cons_zero, List.set_cons_succ]
              refine' takeN (i := 34) (oi := _) ?hizq34 (by kernel_rfl) (by kernel_rfl) (by kernel_rfl) (fun _ _ _ h => h) ?hwzq34 hHeld ?restzq34
              case hizq34 => (simp only [List.getElem?_toArray, List.getElem?_cons_succ, List.getElem?_cons_zero]; rfl)
              case hwzq34 => rfl
              try simp only [Act.put, List.setIfInBounds_toArray, List.set_cons_zero, List.set_cons_succ]
              refine' takeN (i := 35) (oi := _) ?hizq35 (by kernel_rfl) (by kernel_rfl) (by kernel_rfl) (fun _ _ _ h => h) ?hwzq35 hHeld ?restzq35
              case hizq35 => (simp only [List.getElem?_toArray, List.getElem?_cons_succ, List.getElem?_cons_zero]; rfl)
              case hwzq35 => rfl
              try simp only [Act.put, List.setIfInBounds_toArray, List.set_cons_zero, List.set_cons_succ]
              refine' takeN (i := 36) (oi := _) ?hizq36 (by kernel_rfl) (by kernel_rfl) (by kernel_rfl) (fun _ _ _ h => h) ?hwzq36 hHeld ?restzq36
              case hizq36 => (simp only [List.getElem?_toArray, List.getElem?_cons_succ, List.getElem?_cons_zero]; rfl)
              case hwzq36 => rfl
              try simp only [Act.put, List.setIfInBounds_toArray, List.set_cons_zero, List.set_cons_succ]
              refine' takeN (i := 37) (oi := _) ?hizq37 (by kernel_rfl) (by kernel_rfl) (by kernel_rfl) (fun _ _ _ h => h) ?hwzq37 hHeld ?restzq37
              case hizq37 => (simp only [List.getElem?_toArray, List.getElem?_cons_succ, List.getElem?_cons_zero]; rfl)
              case hwzq37 => rfl
              try simp only [Act.put, List.setIfInBounds_toArray, List.set_cons_zero, List.set_cons_succ]
              refine' takeN (i := 38) (oi := _) ?hizq38 (by kernel_rfl) (by kernel_rfl) (by kernel_rfl) (fun _ _ _ h => h) ?hwzq38 hHeld ?restzq38
              case hizq38 => (simp only [List.getElem?_toArray, List.getElem?_cons_succ, List.getElem?_cons_zero]; rfl)
              case hwzq38 => rfl
              try simp only [Act.put, List.setIfInBounds_toArray, List.set_cons_zero, List.set_cons_succ]
              refine' takeN (i := 39) (oi := _) ?hizq39 (by kernel_rfl) (by kernel_rfl) (by kernel_rfl) (fun _ _ _ h => h) ?hwzq39 hHeld ?restzq39
              case hizq39 => (simp only [List.getElem?_toArray, List.getElem?_cons_succ, List.getElem?_cons_zero]; rfl)
              case hwzq39 => rfl
              try simp only [Act.put, List.setIfInBounds_toArray, List.set_cons_zero, List.set_cons_succ]
              refine' takeN (i := 40) (oi := _) ?hizq40 (by kernel_rfl) (by kernel_rfl) (by kernel_rfl) (fun _ _ _ h => h) ?hwzq40 hHeld ?restzq40
              case hizq40 => (simp only [List.getElem?_toArray, List.getElem?_cons_succ, List.getElem?_cons_zero]; rfl)
              case hwzq40 => rfl
              try simp only [Act.put, List.setIfInBounds_toArray, List.set_cons_zero, List.set_cons_succ]
              refine' takeN (i := 41) (oi := _) ?hizq41 (by kernel_rfl) (by kernel_rfl) (by kernel_rfl) (fun _ _ _ h => h) ?hwzq41 hHeld ?restzq41
              case hizq41 => (simp only [List.getElem?_toArray, List.getElem?_cons_succ, List.getElem?_cons_zero]; rfl)
              case hwzq41 => rfl
              try simp only [Act.put, List.setIfInBounds_toArray, List.set_cons_zero, List.set_cons_succ]
              refine' takeN (i := 42) (oi := _) ?hizq42 (by kernel_rfl) (by kernel_rfl) (by kernel_rfl) (fun _ _ _ h => h) ?hwzq42 hHeld ?restzq42
              case hizq42 => (simp only [List.getElem?_toArray, List.getElem?_cons_succ, List.getElem?_cons_zero]; rfl)
              case hwzq42 => rfl
              try simp only [Act.put, List.setIfInBounds_toArray, List.set_cons_zero, List.set_cons_succ]
              refine' takeN (i := 43) (oi := _) ?hizq43 (by kernel_rfl) (by kernel_rfl) (by kernel_rfl) (fun _ _ _ h => h) ?hwzq43 hHeld ?restzq43
              case hizq43 => (simp only [List.getElem?_toArray, List.getElem?_cons_succ, List.getElem?_cons_zero]; rfl)
              case hwzq43 => rfl
              try simp only [Act.put, List.setIfInBounds_toArray, List.set_cons_zero, List.set_cons_succ]
              refine' takeN (i := 44) (oi := _) ?hizq44 (by kernel_rfl) (by kernel_rfl) (by kernel_rfl) (fun _ _ _ h => h) ?hwzq44 hHeld ?restzq44
              case hizq44 => (simp only [List.getElem?_toArray, List.getElem?_cons_succ, List.getElem?_cons_zero]; rfl)
              case hwzq44 => rfl
              try simp only [Act.put, List.setIfInBounds_toArray, List.set_cons_zero, List.set_cons_succ]
              refine' takeN (i := 45) (oi := _) ?hizq45 (by kernel_rfl) (by kernel_rfl) (by kernel_rfl) (fun _ _ _ h => h) ?hwzq45 hHeld ?restzq45
              case hizq45 => (simp only [List.getElem?_toArray, List.getElem?_cons_succ, List.getElem?_cons_zero]; rfl)
              case hwzq45 => rfl
              try simp only [Act.put, List.setIfInBounds_toArray, List.set_cons_zero, List.set_cons_succ]
              refine' takeN (i := 46) (oi := _) ?hizq46 (by kernel_rfl) (by kernel_rfl) (by kernel_rfl) (fun _ _ _ h => h) ?hwzq46 hHeld ?restzq46
              case hizq46 => (simp only [List.getElem?_toArray, List.getElem?_cons_succ, List.getElem?_cons_zero]; rfl)
              case hwzq46 => rfl
              try simp only [Act.put, List.setIfInBounds_toArray, List.set_cons_zero, List.set_cons_succ]
              refine' takeN (i := 47) (oi := _) ?hizq47 (by kernel_rfl) (by kernel_rfl) (by kernel_rfl) (fun _ _ _ h => h) ?hwzq47 hHeld ?restzq47
              case hizq47 => (simp only [List.getElem?_toArray, List.getElem?_cons_succ, List.getElem?_cons_zero]; rfl)
              case hwzq47 => rfl
              try simp only [Act.put, List.setIfInBounds_toArray, List.set_cons_zero, List.set_cons_succ]
              refine' takeN (i := 48) (oi := _) ?hizq48 (by kernel_rfl) (by kernel_rfl) (by kernel_rfl) (fun _ _ _ h => h) ?hwzq48 hHeld ?restzq48
              case hizq48 => (simp only [List.getElem?_toArray, List.getElem?_cons_succ, List.getElem?_cons_zero]; rfl)
              case hwzq48 => rfl
              try simp only [Act.put, List.setIfInBounds_toArray, List.set_cons_zero, List.set_cons_succ]
              refine' takeY (i := 49) (oi := _) (v := _) ?hizq49 (by kernel_rfl) (by kernel_rfl) (by kernel_rfl) (fun _ _ _ h => h) ?hwzq49 ?hyzq49 hHeld ?restzq49
              case hizq49 => (simp only [List.getElem?_toArray, List.getElem?_cons_succ, List.getElem?_cons_zero]; rfl)
              case hwzq49 => rfl
              case hyzq49 => (intro w hSw; (try dsimp only at hSw); go_simp; try with_reducible rfl)
              try simp only [Act.put, List.setIfInBounds_toArray, List.set_cons_zero, List.set_cons_succ]
              refine' takeY (i := 50) (oi := _) (v := _) ?hizq50 (by kernel_rfl) (by kernel_rfl) (by kernel_rfl) (fun _ _ _ h => h) ?hwzq50 ?hyzq50 hHeld ?restzq50
              case hizq50 => (simp only [List.getElem?_toArray, List.getElem?_cons_succ, List.getElem?_cons_zero]; rfl)
              case hwzq50 => rfl
              case hyzq50 => (intro w hSw; (try dsimp only at hSw); go_simp; try with_reducible rfl)
              try simp only [Act.put, List.setIfInBounds_toArray, List.set_cons_zero, List.set_cons_succ]
              refine wpAnyH_done (by kernel_rfl) ?_ _
              refine NoPanic.normal ?_
              have M := Lib.hid (M.out.next OK.out BL.out)
              have K := Lib.hid (K.out.below BL.out)
              have X := Lib.hid (X.out.below BL.out)
              have S5 := Lib.hid (S5.out.below BL.out)
              have y0 := S5.out.cell 0; have y1 := S5.out.cell 1; have y2 := S5.out.cell 2; have y3 := S5.out.cell 3; have y4 := S5.out.cell 4
              have x0 := X.out.cell 0; have x1 := X.out.cell 1; have x2 := X.out.cell 2; have x3 := X.out.cell 3; have x4 := X.out.cell 4
              have fx : ∀ q, _root_.Go.World.frozen? _ ⟨n3, q, none⟩ = false := fun q => X.out.free q
              simp at y0 y1 y2 y3 y4 x0 x1 x2 x3 x4
              have KN := Lib.hid (show Ran L (j + 1) (runT u) from RX.out.2.2)
              go_wp2
              go_roundw
              case rel =>
                refine ⟨j + 1, s, _, by go_num, by omega, KN.out, fun _ => HSj.out, M.out.wrote OK.out (G' := fun x => x = n2 ∨ x = n3) (((((Keeps.refl _ _).set (.inl (.inr rfl)) 0 _).set (.inl (.inr rfl)) 1 _).set (.inl (.inr rfl)) 2 _).set (.inl (.inr rfl)) 3 _ |>.set (.inl (.inr rfl)) 4 _) (fun x q => .inl q) (fun x q => by have := M.out.lies x q; simpa using this), ?_, X.out.set5⟩
                exact ((((K.out.other _ _ N23.out).other _ _ N23.out).other _ _ N23.out).other _ _ N23.out).other _ _ N23.out
              case measure => simp [intOf]; omega
            · have g0 : decide ((0 : Int) < (j : Int)) = true := by simp; omega
              have g0n : decide (0 < j) = true := by simp; omega
              have CC := CJ.out (by omega)
              clear j0
              have wl : IntKind.i64.wrap (l.D - l.B) = l.D - l.B := IntWalk.i64_in _ (by omega)
              have g1 : decide (s.R < l.D - l.B) = false := by simp; omega
              have g2 : decide (s.D ≤ l.D) = false := by simp; omega
              have KEPT := Lib.hid (show ∀ w' : World, Below W5.heap.size W5 w' → w'.cell? ⟨n2, 0, none⟩ = some (.int .i64 E) ∧ w'.cell? ⟨n2, 1, none⟩ = some (.int .i64 P) ∧ w'.cell? ⟨n5, 0, none⟩ = some (.int .i64 s.I) ∧ w'.cell? ⟨n5, 1, none⟩ = some (.int .i64 s.R) ∧ w'.cell? ⟨n5, 2, none⟩ = some (.int .i64 s.D) ∧ w'.cell? ⟨n5, 3, none⟩ = some (.int .i64 s.B) ∧ w'.cell? ⟨n3, 2, none⟩ = some (.int .i64 l.D) ∧ w'.cell? ⟨n3, 3, none⟩ = some (.int .i64 l.B) from fun w' h => ⟨(K.out.below h).cell 0, (K.out.below h).cell 1, (S5.out.below h).cell 0, (S5.out.below h).cell 1, (S5.out.below h).cell 2, (S5.out.below h).cell 3, (X.out.below h).cell 2, (X.out.below h).cell 3⟩)
              clear CC
              refine wp_region_noPanic ?_
              refine wp_region_held_drew (S := fun w' => w'.cell? ⟨n2, 0, none⟩ = some (.int .i64 E) ∧ w'.cell? ⟨n2, 1, none⟩ = some (.int .i64 P) ∧ w'.cell? ⟨n5, 0, none⟩ = some (.int .i64 s.I) ∧ w'.cell? ⟨n5, 1, none⟩ = some (.int .i64 s.R) ∧ w'.cell? ⟨n5, 2, none⟩ = some (.int .i64 s.D) ∧ w'.cell? ⟨n5, 3, none⟩ = some (.int .i64 s.B) ∧ w'.cell? ⟨n3, 2, none⟩ = some (.int .i64 l.D) ∧ w'.cell? ⟨n3, 3, none⟩ = some (.int .i64 l.B)) (by kernel_rfl) (KEPT.out _ BL.out) (fun hHeld => ?_)
              refine' takeY (i := 0) (oi := _) (v := _) ?hiyq0 (by kernel_rfl) (by kernel_rfl) (by kernel_rfl) (fun _ _ _ h => h) ?hwyq0 ?hyyq0 hHeld ?restyq0
              case hiyq0 => (simp only [List.getElem?_toArray, List.getElem?_cons_zero]; rfl)
              case hwyq0 => rfl
              case hyyq0 => (intro w hSw; (try dsimp only at hSw); go_simp; try with_reducible rfl)
              try simp only [Act.put, List.setIfInBounds_toArray, List.set_cons_zero, List.set_cons_succ]
              refine' takeY (i := 1) (oi := _) (v := _) ?hiyq1 (by kernel_rfl) (by kernel_rfl) (by kernel_rfl) (fun _ _ _ h => h) ?hwyq1 ?hyyq1 hHeld ?restyq1
              case hiyq1 => (simp only [List.getElem?_toArray, List.getElem?_cons_succ, List.getElem?_cons_zero]; rfl)
              case hwyq1 => rfl
              case hyyq1 => (intro w hSw; (try dsimp only at hSw); go_simp; try with_reducible rfl)
              try simp only [Act.put, List.setIfInBounds_toArray, List.set_cons_zero, List.set_cons_succ]
              refine' takeY (i := 2) (oi := _) (v := _) ?hiyq2 (by kernel_rfl) (by kernel_rfl) (by kernel_rfl) (fun _ _ _ h => h) ?hwyq2 ?hyyq2 hHeld ?restyq2
              case hiyq2 => (simp only [List.getElem?_toArray, List.getElem?_cons_succ, List.getElem?_cons_zero]; rfl)
              case hwyq2 => rfl
              case hyyq2 => (intro w hSw; (try dsimp only at hSw); go_simp; try with_reducible rfl)
              try simp only [Act.put, List.setIfInBounds_toArray, List.set_cons_zero, List.set_cons_succ]
              refine' takeY (i := 3) (oi := _) (v := _) ?hiyq3 (by kernel_rfl) (by kernel_rfl) (by kernel_rfl) (fun _ _ _ h => h) ?hwyq3 ?hyyq3 hHeld ?restyq3
              case hiyq3 => (simp only [List.getElem?_toArray, List.getElem?_cons_succ, List.getElem?_cons_zero]; rfl)
              case hwyq3 => rfl
              case hyyq3 => (intro w hSw; (try dsimp only at hSw); go_simp; try with_reducible rfl)
              try simp only [Act.put, List.setIfInBounds_toArray, List.set_cons_zero, List.set_cons_succ]
              refine' takeY (i := 4) (oi := _) (v := _) ?hiyq4 (by kernel_rfl) (by kernel_rfl) (by kernel_rfl) (fun _ _ _ h => h) ?hwyq4 ?hyyq4 hHeld ?restyq4
              case hiyq4 => (simp only [List.getElem?_toArray, List.getElem?_cons_succ, List.getElem?_cons_zero]; rfl)
              case hwyq4 => rfl
              case hyyq4 => (intro w hSw; (try dsimp only at hSw); go_simp; try with_reducible rfl)
              try simp only [Act.put, List.setIfInBounds_toArray, List.set_cons_zero, List.set_cons_succ]
              refine' takeY (i := 5) (oi := _) (v := _) ?hiyq5 (by kernel_rfl) (by kernel_rfl) (by kernel_rfl) (fun _ _ _ h => h) ?hwyq5 ?hyyq5 hHeld ?restyq5
              case hiyq5 => (simp only [List.getElem?_toArray, List.getElem?_cons_succ, List.getElem?_cons_zero]; rfl)
              case hwyq5 => rfl
              case hyyq5 => (intro w hSw; (try dsimp only at hSw); go_simp; try with_reducible rfl)
              try simp only [Act.put, List.setIfInBounds_toArray, List.set_cons_zero, List.set_cons_succ]
              refine' takeY (i := 6) (oi := _) (v := _) ?hiyq6 (by kernel_rfl) (by kernel_rfl) (by kernel_rfl) (fun _ _ _ h => h) ?hwyq6 ?hyyq6 hHeld ?restyq6
              case hiyq6 => (simp only [List.getElem?_toArray, List.getElem?_cons_succ, List.getElem?_cons_zero]; rfl)
              case hwyq6 => rfl
              case hyyq6 => (intro w hSw; (try dsimp only at hSw); go_simp; try with_reducible rfl)
              try simp only [Act.put, List.setIfInBounds_toArray, List.set_cons_zero, List.set_cons_succ]
              refine' takeY (i := 7) (oi := _) (v := _) ?hiyq7 (by kernel_rfl) (by kernel_rfl) (by kernel_rfl) (fun _ _ _ h => h) ?hwyq7 ?hyyq7 hHeld ?restyq7
              case hiyq7 => (simp only [List.getElem?_toArray, List.getElem?_cons_succ, List.getElem?_cons_zero]; rfl)
              case hwyq7 => rfl
              case hyyq7 => (intro w hSw; (try dsimp only at hSw); go_simp; try with_reducible rfl)
              try simp only [Act.put, List.setIfInBounds_toArray, List.set_cons_zero, List.set_cons_succ]
              refine' takeY (i := 8) (oi := _) (v := _) ?hiyq8 (by kernel_rfl) (by kernel_rfl) (by kernel_rfl) (fun _ _ _ h => h) ?hwyq8 ?hyyq8 hHeld ?restyq8
              case hiyq8 => (simp only [List.getElem?_toArray, List.getElem?_cons_succ, List.getElem?_cons_zero]; rfl)
              case hwyq8 => rfl
              case hyyq8 => (intro w hSw; (try dsimp only at hSw); go_simp; try with_reducible rfl)
              try simp only [Act.put, List.setIfInBounds_toArray, List.set_cons_zero, List.set_cons_succ]
              refine' takeY (i := 9) (oi := _) (v := _) ?hiyq9 (by kernel_rfl) (by kernel_rfl) (by kernel_rfl) (fun _ _ _ h => h) ?hwyq9 ?hyyq9 hHeld ?restyq9
              case hiyq9 => (simp only [List.getElem?_toArray, List.getElem?_cons_succ, List.getElem?_cons_zero]; rfl)
              case hwyq9 => rfl
              case hyyq9 => (intro w hSw; (try dsimp only at hSw); go_simp; try with_reducible rfl)
              try simp only [Act.put, List.setIfInBounds_toArray, List.set_cons_zero, List.set_cons_succ]
              refine' takeY (i := 10) (oi := _) (v := _) ?hiyq10 (by kernel_rfl) (by kernel_rfl) (by kernel_rfl) (fun _ _ _ h => h) ?hwyq10 ?hyyq10 hHeld ?restyq10
              case hiyq10 => (simp only [List.getElem?_toArray, List.getElem?_cons_succ, List.getElem?_cons_zero]; rfl)
              case hwyq10 => rfl
              case hyyq10 => (intro w hSw; (try dsimp only at hSw); go_simp; try with_reducible rfl)
              try simp only [Act.put, List.setIfInBounds_toArray, List.set_cons_zero, List.set_cons_succ]
              refine' takeY (i := 11) (oi := _) (v := _) ?hiyq11 (by kernel_rfl) (by kernel_rfl) (by kernel_rfl) (fun _ _ _ h => h) ?hwyq11 ?hyyq11 hHeld ?restyq11
              case hiyq11 => (simp only [List.getElem?_toArray, List.getElem?_cons_succ, List.getElem?_cons_zero]; rfl)
              case hwyq11 => rfl
              case hyyq11 => (intro w hSw; (try dsimp only at hSw); go_simp; try with_reducible rfl)
              try simp only [Act.put, List.setIfInBounds_toArray, List.set_cons_zero, List.set_cons_succ]
              refine' takeY (i := 12) (oi := _) (v := _) ?hiyq12 (by kernel_rfl) (by kernel_rfl) (by kernel_rfl) (fun _ _ _ h => h) ?hwyq12 ?hyyq12 hHeld ?restyq12
              case hiyq12 => (simp only [List.getElem?_toArray, List.getElem?_cons_succ, List.getElem?_cons_zero]; rfl)
              case hwyq12 => rfl
              case hyyq12 => (intro w hSw; (try dsimp only at hSw); go_simp; try with_reducible rfl)
              try simp only [Act.put, List.setIfInBounds_toArray, List.set_cons_zero, List.set_cons_succ]
              refine' takeY (i := 13) (oi := _) (v := _) ?hiyq13 (by kernel_rfl) (by kernel_rfl) (by kernel_rfl) (fun _ _ _ h => h) ?hwyq13 ?hyyq13 hHeld ?restyq13
              case hiyq13 => (simp only [List.getElem?_toArray, List.getElem?_cons_succ, List.getElem?_cons_zero]; rfl)
              case hwyq13 => rfl
              case hyyq13 => (intro w hSw; (try dsimp only at hSw); go_simp; try with_reducible rfl)
              try simp only [Act.put, List.setIfInBounds_toArray, List.set_cons_zero, List.set_cons_succ]
              refine' takeY (i := 14) (oi := _) (v := _) ?hiyq14 (by kernel_rfl) (by kernel_rfl) (by kernel_rfl) (fun _ _ _ h => h) ?hwyq14 ?hyyq14 hHeld ?restyq14
              case hiyq14 => (simp only [List.getElem?_toArray, List.getElem?_cons_succ, List.getElem?_cons_zero]; rfl)
              case hwyq14 => rfl
              case hyyq14 => (intro w hSw; (try dsimp only at hSw); go_simp; try with_reducible rfl)
              try simp only [Act.put, List.setIfInBounds_toArray, List.set_cons_zero, List.set_cons_succ]
              refine' takeY (i := 15) (oi := _) (v := _) ?hiyq15 (by kernel_rfl) (by kernel_rfl) (by kernel_rfl) (fun _ _ _ h => h) ?hwyq15 ?hyyq15 hHeld ?restyq15
              case hiyq15 => (simp only [List.getElem?_toArray, List.getElem?_cons_succ, List.getElem?_cons_zero]; rfl)
              case hwyq15 => rfl
              case hyyq15 => (intro w hSw; (try dsimp only at hSw); go_simp; try with_reducible rfl)
              try simp only [Act.put, List.setIfInBounds_toArray, List.set_cons_zero, List.set_cons_succ]
              refine' takeY (i := 16) (oi := _) (v := _) ?hiyq16 (by kernel_rfl) (by kernel_rfl) (by kernel_rfl) (fun _ _ _ h => h) ?hwyq16 ?hyyq16 hHeld ?restyq16
              case hiyq16 => (simp only [List.getElem?_toArray, List.getElem?_cons_succ, List.getElem?_cons_zero]; rfl)
              case hwyq16 => rfl
              case hyyq16 => (intro w hSw; (try dsimp only at hSw); go_simp; try with_reducible rfl)
              try simp only [Act.put, List.setIfInBounds_toArray, List.set_cons_zero, List.set_cons_succ]
              refine' takeY (i := 17) (oi := _) (v := _) ?hiyq17 (by kernel_rfl) (by kernel_rfl) (by kernel_rfl) (fun _ _ _ h => h) ?hwyq17 ?hyyq17 hHeld ?restyq17
              case hiyq17 => (simp only [List.getElem?_toArray, List.getElem?_cons_succ, List.getElem?_cons_zero]; rfl)
              case hwyq17 => rfl
              case hyyq17 => (intro w hSw; (try dsimp only at hSw); go_simp; try with_reducible rfl)
              try simp only [Act.put, List.setIfInBounds_toArray, List.set_cons_zero, List.set_cons_succ]
              refine wpAnyH_ready (rs := [18]) (by kernel_rfl) (by simp) ?_
              refine' AllReadyH.cons (o := _) ?hiyq18 (fun K hK => ?stepyq18) AllReadyH.nil
              case hiyq18 => (simp only [List.getElem?_toArray, List.getElem?_cons_succ, List.getElem?_cons_zero]; rfl)
              go_simp
              (go_at_call 28; (with_reducible refine (r4long_yes E P s.I _ _ HM.out NS.out LG.out).mono ?_); rintro e wa ⟨rfl, hb⟩; have BL := Lib.hid (below_next BL.out hb); clear hb)
              go_wp2_with fail
              clear hHeld
              refine hK.out _ _ (KEPT.out _ BL.out) (fun hHeld => ?_)
              clear hK K
              try simp only [Act.put, List.setIfInBounds_toArray, List.set_cons_zero, List.set_cons_succ]
              refine' takeY (i := 19) (oi := _) (v := _) ?hiyq19 (by kernel_rfl) (by kernel_rfl) (by kernel_rfl) (fun _ _ _ h => h) ?hwyq19 ?hyyq19 hHeld ?restyq19
              case hiyq19 => (simp only [List.getElem?_toArray, List.getElem?_cons_succ, List.getElem?_cons_zero]; rfl)
              case hwyq19 => rfl
              case hyyq19 => (intro w hSw; (try dsimp only at hSw); go_simp; try with_reducible rfl)
              try simp only [Act.put, List.setIfInBounds_toArray, List.set_cons_zero, List.set_cons_succ]
              refine' takeY (i := 20) (oi := _) (v := _) ?hiyq20 (by kernel_rfl) (by kernel_rfl) (by kernel_rfl) (fun _ _ _ h => h) ?hwyq20 ?hyyq20 hHeld ?restyq20
              case hiyq20 => (simp only [List.getElem?_toArray, List.getElem?_cons_succ, List.getElem?_cons_zero]; rfl)
              case hwyq20 => rfl
              case hyyq20 => (intro w hSw; (try dsimp only at hSw); go_simp; try with_reducible rfl)
              try simp only [Act.put, List.setIfInBounds_toArray, List.set_cons_zero, List.set_cons_succ]
              refine' takeY (i := 21) (oi := _) (v := _) ?hiyq21 (by kernel_rfl) (by kernel_rfl) (by kernel_rfl) (fun _ _ _ h => h) ?hwyq21 ?hyyq21 hHeld ?restyq21
              case hiyq21 => (simp only [List.getElem?_toArray, List.getElem?_cons_succ, List.getElem?_cons_zero]; rfl)
              case hwyq21 => rfl
              case hyyq21 => (intro w hSw; (try dsimp only at hSw); go_simp; try with_reducible rfl)
              try simp only [Act.put, List.setIfInBounds_toArray, List.set_cons_zero, List.set_cons_succ]
              refine' takeY (i := 22) (oi := _) (v := _) ?hiyq22 (by kernel_rfl) (by kernel_rfl) (by kernel_rfl) (fun _ _ _ h => h) ?hwyq22 ?hyyq22 hHeld ?restyq22
              case hiyq22 => (simp only [List.getElem?_toArray, List.getElem?_cons_succ, List.getElem?_cons_zero]; rfl)
              case hwyq22 => rfl
              case hyyq22 => (intro w hSw; (try dsimp only at hSw); go_simp; try with_reducible rfl)
              try simp only [Act.put, List.setIfInBounds_toArray, List.set_cons_zero, List.set_cons_succ]
              refine' takeY (i := 23) (oi := _) (v := _) ?hiyq23 (by kernel_rfl) (by kernel_rfl) (by kernel_rfl) (fun _ _ _ h => h) ?hwyq23 ?hyyq23 hHeld ?restyq23
              case hiyq23 => (simp only [List.getElem?_toArray, List.getElem?_cons_succ, List.getElem?_cons_zero]; rfl)
              case hwyq23 => rfl
              case hyyq23 => (intro w hSw; (try dsimp only at hSw); go_simp; try with_reducible rfl)
              try simp only [Act.put, List.setIfInBounds_toArray, List.set_cons_zero, List.set_cons_succ]
              refine' takeY (i := 24) (oi := _) (v := _) ?hiyq24 (by kernel_rfl) (by kernel_rfl) (by kernel_rfl) (fun _ _ _ h => h) ?hwyq24 ?hyyq24 hHeld ?restyq24
              case hiyq24 => (simp only [List.getElem?_toArray, List.getElem?_cons_succ, List.getElem?_cons_zero]; rfl)
              case hwyq24 => rfl
              case hyyq24 => (intro w hSw; (try dsimp only at hSw); go_simp; try with_reducible rfl)
              try simp only [Act.put, List.setIfInBounds_toArray, List.set_cons_zero, List.set_cons_succ]
              refine' takeY (i := 25) (oi := _) (v := _) ?hiyq25 (by kernel_rfl) (by kernel_rfl) (by kernel_rfl) (fun _ _ _ h => h) ?hwyq25 ?hyyq25 hHeld ?restyq25
              case hiyq25 => (simp only [List.getElem?_toArray, List.getElem?_cons_succ, List.getElem?_cons_zero]; rfl)
              case hwyq25 => rfl
              case hyyq25 => (intro w hSw; (try dsimp only at hSw); go_simp; try with_reducible rfl)
              try simp only [Act.put, List.setIfInBounds_toArray, List.set_cons_zero, List.set_cons_succ]
              refine' takeY (i := 26) (oi := _) (v := _) ?hiyq26 (by kernel_rfl) (by kernel_rfl) (by kernel_rfl) (fun _ _ _ h => h) ?hwyq26 ?hyyq26 hHeld ?restyq26
              case hiyq26 => (simp only [List.getElem?_toArray, List.getElem?_cons_succ, List.getElem?_cons_zero]; rfl)
              case hwyq26 => rfl
              case hyyq26 => (intro w hSw; (try dsimp only at hSw); go_simp; try with_reducible rfl)
              try simp only [Act.put, List.setIfInBounds_toArray, List.set_cons_zero, List.set_cons_succ]
              refine wpAnyH_ready (rs := [27]) (by kernel_rfl) (by simp) ?_
              refine' AllReadyH.cons (o := _) ?hiyq27 (fun K hK => ?stepyq27) AllReadyH.nil
              case hiyq27 => (simp only [List.getElem?_toArray, List.getElem?_cons_succ, List.getElem?_cons_zero]; rfl)
              go_simp
              (go_at_call 29; (with_reducible refine (r4bit_yes E P s.I _ _ HM.out NS.out BT.out).mono ?_); rintro e wb ⟨rfl, hb⟩; have BL := Lib.hid (below_next BL.out hb); clear hb)
              go_wp2_with fail
              clear hHeld
              refine hK.out _ _ (KEPT.out _ BL.out) (fun hHeld => ?_)
              clear hK K
              try simp only [Act.put, List.setIfInBounds_toArray, List.set_cons_zero, List.set_cons_succ]
              refine' takeY (i := 28) (oi := _) (v := _) ?hiyq28 (by kernel_rfl) (by kernel_rfl) (by kernel_rfl) (fun _ _ _ h => h) ?hwyq28 ?hyyq28 hHeld ?restyq28
              case hiyq28 => (simp only [List.getElem?_toArray, List.getElem?_cons_succ, List.getElem?_cons_zero]; rfl)
              case hwyq28 => rfl
              case hyyq28 => (intro w hSw; (try dsimp only at hSw); go_simp; try with_reducible rfl)
              try simp only [Act.put, List.setIfInBounds_toArray, List.set_cons_zero, List.set_cons_succ]
              refine' takeY (i := 29) (oi := _) (v := _) ?hiyq29 (by kernel_rfl) (by kernel_rfl) (by kernel_rfl) (fun _ _ _ h => h) ?hwyq29 ?hyyq29 hHeld ?restyq29
              case hiyq29 => (simp only [List.getElem?_toArray, List.getElem?_cons_succ, List.getElem?_cons_zero]; rfl)
              case hwyq29 => rfl
              case hyyq29 => (intro w hSw; (try dsimp only at hSw); go_simp; try with_reducible rfl)
              try simp only [Act.put, List.setIfInBounds_toArray, List.set_cons_zero, List.set_cons_succ]
              refine' takeY (i := 30) (oi := _) (v := _) ?hiyq30 (by kernel_rfl) (by kernel_rfl) (by kernel_rfl) (fun _ _ _ h => h) ?hwyq30 ?hyyq30 hHeld ?restyq30
              case hiyq30 => (simp only [List.getElem?_toArray, List.getElem?_cons_succ, List.getElem?_cons_zero]; rfl)
              case hwyq30 => rfl
              case hyyq30 => (intro w hSw; (try dsimp only at hSw); go_simp; try with_reducible rfl)
              try simp only [Act.put, List.setIfInBounds_toArray, List.set_cons_zero, List.set_cons_succ]
              refine' takeY (i := 31) (oi := _) (v := _) ?hiyq31 (by kernel_rfl) (by kernel_rfl) (by kernel_rfl) (fun _ _ _ h => h) ?hwyq31 ?hyyq31 hHeld ?restyq31
              case hiyq31 => (simp only [List.getElem?_toArray, List.getElem?_cons_succ, List.getElem?_cons_zero]; rfl)
              case hwyq31 => rfl
              case hyyq31 => (intro w hSw; (try dsimp only at hSw); go_simp; try with_reducible rfl)
              try simp only [Act.put, List.setIfInBounds_toArray, List.set_cons_zero, List.set_cons_succ]
              refine' takeY (i := 32) (oi := _) (v := _) ?hiyq32 (by kernel_rfl) (by kernel_rfl) (by kernel_rfl) (fun _ _ _ h => h) ?hwyq32 ?hyyq32 hHeld ?restyq32
              case hiyq32 => (simp only [List.getElem?_toArray, List.getElem?_cons_succ, List.getElem?_cons_zero]; rfl)
              case hwyq32 => rfl
              case hyyq32 => (intro w hSw; (try dsimp only at hSw); go_simp; try with_reducible rfl)
              try simp only [Act.put, List.setIfInBounds_toArray, List.set_cons_zero, List.set_cons_succ]
              refine' takeY (i := 33) (oi := _) (v := _) ?hiyq33 (by kernel_rfl) (by kernel_rfl) (by kernel_rfl) (fun _ _ _ h => h) ?hwyq33 ?hyyq33 hHeld ?restyq33
              case hiyq33 => (simp only [List.getElem?_toArray, List.getElem?_cons_succ, List.getElem?_cons_zero]; rfl)
              case hwyq33 => rfl
              case hyyq33 => (intro w hSw; (try dsimp only at hSw); go_simp; try with_reducible rfl)
              try simp only [Act.put, List.setIfInBounds_toArray, List.set_cons_zero, List.set_cons_succ]
              refine' takeY (i := 34) (oi := _) (v := _) ?hiyq34 (by kernel_rfl) (by kernel_rfl) (by kernel_rfl) (fun _ _ _ h => h) ?hwyq34 ?hyyq34 hHeld ?restyq34
              case hiyq34 => (simp only [List.getElem?_toArray, List.getElem?_cons_succ, List.getElem?_cons_zero]; rfl)
              case hwyq34 => rfl
              case hyyq34 => (intro w hSw; (try dsimp only at hSw); go_simp; try with_reducible rfl)
              try simp only [Act.put, List.setIfInBounds_toArray, List.set_cons_zero, List.set_cons_succ]
              refine' takeY (i := 35) (oi := _) (v := _) ?hiyq35 (by kernel_rfl) (by kernel_rfl) (by kernel_rfl) (fun _ _ _ h => h) ?hwyq35 ?hyyq35 hHeld ?restyq35
              case hiyq35 => (simp only [List.getElem?_toArray, List.getElem?_cons_succ, List.getElem?_cons_zero]; rfl)
              case hwyq35 => rfl
              case hyyq35 => (intro w hSw; (try dsimp only at hSw); go_simp; try with_reducible rfl)
              try simp only [Act.put, List.setIfInBounds_toArray, List.set_cons_zero, List.set_cons_succ]
              refine' takeY (i := 36) (oi := _) (v := _) ?hiyq36 (by kernel_rfl) (by kernel_rfl) (by kernel_rfl) (fun _ _ _ h => h) ?hwyq36 ?hyyq36 hHeld ?restyq36
              case hiyq36 => (simp only [List.getElem?_toArray, List.getElem?_cons_succ, List.getElem?_cons_zero]; rfl)
              case hwyq36 => rfl
              case hyyq36 => (intro w hSw; (try dsimp only at hSw); go_simp; try with_reducible rfl)
              try simp only [Act.put, List.setIfInBounds_toArray, List.set_cons_zero, List.set_cons_succ]
              refine' takeY (i := 37) (oi := _) (v := _) ?hiyq37 (by kernel_rfl) (by kernel_rfl) (by kernel_rfl) (fun _ _ _ h => h) ?hwyq37 ?hyyq37 hHeld ?restyq37
              case hiyq37 => (simp only [List.getElem?_toArray, List.getElem?_cons_succ, List.getElem?_cons_zero]; rfl)
              case hwyq37 => rfl
              case hyyq37 => (intro w hSw; (try dsimp only at hSw); go_simp; try with_reducible rfl)
              try simp only [Act.put, List.setIfInBounds_toArray, List.set_cons_zero, List.set_cons_succ]
              refine' takeY (i := 38) (oi := _) (v := _) ?hiyq38 (by kernel_rfl) (by kernel_rfl) (by kernel_rfl) (fun _ _ _ h => h) ?hwyq38 ?hyyq38 hHeld ?restyq38
              case hiyq38 => (simp only [List.getElem?_toArray, List.getElem?_cons_succ, List.getElem?_cons_zero]; rfl)
              case hwyq38 => rfl
              case hyyq38 => (intro w hSw; (try dsimp only at hSw); go_simp; try with_reducible rfl)
              try simp only [Act.put, List.setIfInBounds_toArray, List.set_cons_zero, List.set_cons_succ]
              refine' takeY (i := 39) (oi := _) (v := _) ?hiyq39 (by kernel_rfl) (by kernel_rfl) (by kernel_rfl) (fun _ _ _ h => h) ?hwyq39 ?hyyq39 hHeld ?restyq39
              case hiyq39 => (simp only [List.getElem?_toArray, List.getElem?_cons_succ, List.getElem?_cons_zero]; rfl)
              case hwyq39 => rfl
              case hyyq39 => (intro w hSw; (try dsimp only at hSw); go_simp; try with_reducible rfl)
              try simp only [Act.put, List.setIfInBounds_toArray, List.set_cons_zero, List.set_cons_succ]
              refine' takeY (i := 40) (oi := _) (v := _) ?hiyq40 (by kernel_rfl) (by kernel_rfl) (by kernel_rfl) (fun _ _ _ h => h) ?hwyq40 ?hyyq40 hHeld ?restyq40
              case hiyq40 => (simp only [List.getElem?_toArray, List.getElem?_cons_succ, List.getElem?_cons_zero]; rfl)
              case hwyq40 => rfl
              case hyyq40 => (intro w hSw; (try dsimp only at hSw); go_simp; try with_reducible rfl)
              try simp only [Act.put, List.setIfInBounds_toArray, List.set_cons_zero, List.set_cons_succ]
              refine' takeY (i := 41) (oi := _) (v := _) ?hiyq41 (by kernel_rfl) (by kernel_rfl) (by kernel_rfl) (fun _ _ _ h => h) ?hwyq41 ?hyyq41 hHeld ?restyq41
              case hiyq41 => (simp only [List.getElem?_toArray, List.getElem?_cons_succ, List.getElem?_cons_zero]; rfl)
              case hwyq41 => rfl
              case hyyq41 => (intro w hSw; (try dsimp only at hSw); go_simp; try with_reducible rfl)
              try simp only [Act.put, List.setIfInBounds_toArray, List.set_cons_zero, List.set_cons_succ]
              refine' takeY (i := 42) (oi := _) (v := _) ?hiyq42 (by kernel_rfl) (by kernel_rfl) (by kernel_rfl) (fun _ _ _ h => h) ?hwyq42 ?hyyq42 hHeld ?restyq42
              case hiyq42 => (simp only [List.getElem?_toArray, List.getElem?_cons_succ, List.getElem?_cons_zero]; rfl)
              case hwyq42 => rfl
              case hyyq42 => (intro w hSw; (try dsimp only at hSw); go_simp; try with_reducible rfl)
              try simp only [Act.put, List.setIfInBounds_toArray, List.set_cons_zero, List.set_cons_succ]
              refine' takeY (i := 43) (oi := _) (v := _) ?hiyq43 (by kernel_rfl) (by kernel_rfl) (by kernel_rfl) (fun _ _ _ h => h) ?hwyq43 ?hyyq43 hHeld ?restyq43
              case hiyq43 => (simp only [List.getElem?_toArray, List.getElem?_cons_succ, List.getElem?_cons_zero]; rfl)
              case hwyq43 => rfl
              case hyyq43 => (intro w hSw; (try dsimp only at hSw); go_simp; try with_reducible rfl)
              try simp only [Act.put, List.setIfInBounds_toArray, List.set_cons_zero, List.set_cons_succ]
              refine' takeY (i := 44) (oi := _) (v := _) ?hiyq44 (by kernel_rfl) (by kernel_rfl) (by kernel_rfl) (fun _ _ _ h => h) ?hwyq44 ?hyyq44 hHeld ?restyq44
              case hiyq44 => (simp only [List.getElem?_toArray, List.getElem?_cons_succ, List.getElem?_cons_zero]; rfl)
              case hwyq44 => rfl
              case hyyq44 => (intro w hSw; (try dsimp only at hSw); go_simp; try with_reducible rfl)
              try simp only [Act.put, List.setIfInBounds_toArray, List.set_cons_zero, List.set_cons_succ]
              refine' takeY (i := 45) (oi := _) (v := _) ?hiyq45 (by kernel_rfl) (by kernel_rfl) (by kernel_rfl) (fun _ _ _ h => h) ?hwyq45 ?hyyq45 hHeld ?restyq45
              case hiyq45 => (simp only [List.getElem?_toArray, List.getElem?_cons_succ, List.getElem?_cons_zero]; rfl)
              case hwyq45 => rfl
              case hyyq45 => (intro w hSw; (try dsimp only at hSw); go_simp; try with_reducible rfl)
              try simp only [Act.put, List.setIfInBounds_toArray, List.set_cons_zero, List.set_cons_succ]
              refine' takeY (i := 46) (oi := _) (v := _) ?hiyq46 (by kernel_rfl) (by kernel_rfl) (by kernel_rfl) (fun _ _ _ h => h) ?hwyq46 ?hyyq46 hHeld ?restyq46
              case hiyq46 => (simp only [List.getElem?_toArray, List.getElem?_cons_succ, List.getElem?_cons_zero]; rfl)
              case hwyq46 => rfl
              case hyyq46 => (intro w hSw; (try dsimp only at hSw); go_simp; try with_reducible rfl)
              try simp only [Act.put, List.setIfInBounds_toArray, List.set_cons_zero, List.set_cons_succ]
              refine' takeY (i := 47) (oi := _) (v := _) ?hiyq47 (by kernel_rfl) (by kernel_rfl) (by kernel_rfl) (fun _ _ _ h => h) ?hwyq47 ?hyyq47 hHeld ?restyq47
              case hiyq47 => (simp only [List.getElem?_toArray, List.getElem?_cons_succ, List.getElem?_cons_zero]; rfl)
              case hwyq47 => rfl
              case hyyq47 => (intro w hSw; (try dsimp only at hSw); go_simp; try with_reducible rfl)
              try simp only [Act.put, List.setIfInBounds_toArray, List.set_cons_zero, List.set_cons_succ]
              refine' takeY (i := 48) (oi := _) (v := _) ?hiyq48 (by kernel_rfl) (by kernel_rfl) (by kernel_rfl) (fun _ _ _ h => h) ?hwyq48 ?hyyq48 hHeld ?restyq48
              case hiyq48 => (simp only [List.getElem?_toArray, List.getElem?_cons_succ, List.getElem?_cons_zero]; rfl)
              case hwyq48 => rfl
              case hyyq48 => (intro w hSw; (try dsimp only at hSw); go_simp; try with_reducible rfl)
              try simp only [Act.put, List.setIfInBounds_toArray, List.set_cons_zero, List.set_cons_succ]
              refine' takeY (i := 49) (oi := _) (v := _) ?hiyq49 (by kernel_rfl) (by kernel_rfl) (by kernel_rfl) (fun _ _ _ h => h) ?hwyq49 ?hyyq49 hHeld ?restyq49
              case hiyq49 => (simp only [List.getElem?_toArray, List.getElem?_cons_succ, List.getElem?_cons_zero]; rfl)
              case hwyq49 => rfl
              case hyyq49 => (intro w hSw; (try dsimp only at hSw); go_simp; try with_reducible rfl)
              try simp only [Act.put, List.setIfInBounds_toArray, List.set_cons_zero, List.set_cons_succ]
              refine' takeY (i := 50) (oi := _) (v := _) ?hiyq50 (by kernel_rfl) (by kernel_rfl) (by kernel_rfl) (fun _ _ _ h => h) ?hwyq50 ?hyyq50 hHeld ?restyq50
              case hiyq50 => (simp only [List.getElem?_toArray, List.getElem?_cons_succ, List.getElem?_cons_zero]; rfl)
              case hwyq50 => rfl
              case hyyq50 => (intro w hSw; (try dsimp only at hSw); go_simp; try with_reducible rfl)
              try simp only [Act.put, List.setIfInBounds_toArray, List.set_cons_zero, List.set_cons_succ]
              refine wpAnyH_done (by kernel_rfl) ?_ _
              refine NoPanic.normal ?_
              have M := Lib.hid (M.out.next OK.out BL.out)
              have K := Lib.hid (K.out.below BL.out)
              have X := Lib.hid (X.out.below BL.out)
              have S5 := Lib.hid (S5.out.below BL.out)
              have y0 := S5.out.cell 0; have y1 := S5.out.cell 1; have y2 := S5.out.cell 2; have y3 := S5.out.cell 3; have y4 := S5.out.cell 4
              have x0 := X.out.cell 0; have x1 := X.out.cell 1; have x2 := X.out.cell 2; have x3 := X.out.cell 3; have x4 := X.out.cell 4
              have fx : ∀ q, _root_.Go.World.frozen? _ ⟨n3, q, none⟩ = false := fun q => X.out.free q
              simp at y0 y1 y2 y3 y4 x0 x1 x2 x3 x4
              have KN := Lib.hid (show Ran L (j + 1) (runT u) from RX.out.2.2)
              go_wp2
              go_roundw
              case rel =>
                refine ⟨j + 1, s, _, by go_num, by omega, KN.out, fun _ => HSj.out, M.out.wrote OK.out (G' := fun x => x = n2 ∨ x = n3) (((((Keeps.refl _ _).set (.inl (.inr rfl)) 0 _).set (.inl (.inr rfl)) 1 _).set (.inl (.inr rfl)) 2 _).set (.inl (.inr rfl)) 3 _ |>.set (.inl (.inr rfl)) 4 _) (fun x q => .inl q) (fun x q => by have := M.out.lies x q; simpa using this), ?_, X.out.set5⟩
                exact ((((K.out.other _ _ N23.out).other _ _ N23.out).other _ _ N23.out).other _ _ N23.out).other _ _ N23.out
              case measure => simp [intOf]; omega
          · have t5 : decide ((j : Int) < (i : Int)) = false := by simp; omega
            have t5n : decide (j < i) = false := by simp; omega
            obtain rfl : j = i := by omega
            have RE := Lib.hid (ran_end (L := L) (t := u) (by rw [LN.out]; exact RN.out))
            go_wp2_with fail
            refine (mrun OK.out g u M.out (by rw [RN.out.done]; have := NN.out; omega)).mono ?_
            rintro e w5 ⟨rfl, hm, hh⟩
            rw [RE.out.1, RE.out.2.2.1, show sub0.v = .agg #[.int .i64 0, .int .i64 0, .int .i64 0, .int .i64 0, .int .i64 0] from rfl]
            rw [RE.out.2.1] at hm
            have M := Lib.hid (hm.next OK.out (wbox w5 (.cells #[.int .i64 0, .int .i64 0, .int .i64 0, .int .i64 0, .int .i64 0] 35)))
            clear hm hh
            go_wp2_with fail
            refine (mdone OK.out g u M.out).mono ?_
            rintro e w6 ⟨rfl, hm, hh⟩
            rw [RN.out.done]
            have M := Lib.hid hm
            clear hm hh
            go_wp2_with fail
            refine (mwaits OK.out g u M.out).mono ?_
            rintro e w7 ⟨rfl, hm, hh⟩
            rw [RE.out.2.2.2]
            have B := Lib.hid hm.below
            clear hm hh
            go_wp2
            go_ret
            exact ⟨rfl, B.out⟩
end
end Go.Proofs.Ythaoijmjkmgebaa

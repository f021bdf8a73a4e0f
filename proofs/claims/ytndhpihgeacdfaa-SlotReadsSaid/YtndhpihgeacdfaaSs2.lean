/-
  The document's Row and Empty (regattaref16): contracts.
-/
import Derived.Test.YtndhpihgeacdfaaSs1
namespace Go.Proofs.Ytndhpihgeacdfaa
open Go.RowKit

/-- the first i slots are a row that may be -/
def RowTo (l : List Sk) (m : Int) (i : Nat) : Prop := ∀ (j : Nat) (s : Sk), j < i → l[j]? = some s → MayS s m ∧ ∀ t : Sk, 0 < j → l[j - 1]? = some t → s.tm = t.tm + 1
theorem rt_zero (l : List Sk) (m : Int) : RowTo l m 0 := fun j _ h => by omega
theorem rt_next {l : List Sk} {m : Int} {i : Nat} {s : Sk} (hs : l[i]? = some s) : RowTo l m (i + 1) ↔ RowTo l m i ∧ MayS s m ∧ ∀ t : Sk, 0 < i → l[i - 1]? = some t → s.tm = t.tm + 1 := by
  constructor
  · intro h
    exact ⟨fun j x hj => h j x (by omega), h i s (by omega) hs⟩
  · rintro ⟨h1, h2⟩ j x hj hx
    by_cases e : j = i
    · subst e
      rw [hs] at hx
      cases hx
      exact h2
    · exact h1 j x (by omega) hx
theorem rt_le {l : List Sk} {m : Int} {i k : Nat} (h : RowTo l m k) (q : i ≤ k) : RowTo l m i := fun j s hj => h j s (by omega)
open Classical in
noncomputable def rowB (l : List Sk) (m : Int) : Bool := decide (RowTo l m l.length)
theorem rowB_yes {l : List Sk} {m : Int} (h : RowTo l m l.length) : rowB l m = true := by unfold rowB; simp [h]
theorem rowB_true {l : List Sk} {m : Int} : rowB l m = true ↔ RowTo l m l.length := by unfold rowB; simp
theorem rowB_not {l : List Sk} {m : Int} {i : Nat} {s : Sk} (hs : l[i]? = some s) (hn : ¬ (MayS s m ∧ ∀ t : Sk, 0 < i → l[i - 1]? = some t → s.tm = t.tm + 1)) : rowB l m = false := by
  unfold rowB
  simp only [decide_eq_false_iff_not]
  intro q
  exact hn ((rt_next hs).mp (rt_le q (by have := lt_of_get hs; omega))).2
set_option maxRecDepth 20000 in
set_option maxHeartbeats 4000000 in
theorem r16row_any (a : Option Addr) (len cap : Nat) (l : List Sk) (m : Int) (w : World) (h : RowK w a len cap l) :
    Calls Try.prog 23 #[.slice a len cap, .int .i64 m] w fun e w' => e = .returned (.bool (rowB l m)) ∧ Below w.heap.size w w' := by
  have H := Lib.hid h
  have LN := Lib.hid h.len
  have ⟨k1, k2⟩ := h.cap_le
  clear h
  go_enter Try.func23, Try.ntmps23
  go_wp2
  go_loopw [5] (fun u wr => ∃ i : Nat, u = .int .i64 i ∧ i ≤ len ∧ RowTo l m i ∧ Below w.heap.size w wr) (fun u _ => len - (intOf u).toNat)
  case atStart => exact ⟨0, rfl, by omega, rt_zero _ _, Below.refl _ _⟩
  case round =>
    obtain ⟨i, rfl, i1, ht, hb⟩ := hrel
    have T := Lib.hid ht
    have B := Lib.hid hb
    clear ht hb
    by_cases go : i < len
    · have b1 : decide ((i : Int) < (len : Int)) = true := by simp; omega
      have b1' : decide (i < len) = true := by simp; omega
      obtain ⟨s, hs, -⟩ := get_of (l := l) (i := i) (by rw [LN.out]; exact go)
      have NX := Lib.hid (fun q => (rt_next (m := m) hs).mpr ⟨T.out, q⟩)
      have NO := Lib.hid (fun q => rowB_not (m := m) hs q)
      obtain ⟨ba, oa, ao, lo, co, rfl, x0, x1, hu⟩ := H.out.at hs
      have HU := Lib.hid (hu.below B.out)
      have X0 := Lib.hid x0
      have x0 := cell_on B.out x0
      have x1 := cell_on B.out x1
      have i3 : (i : Int) < (len : Int) := by omega
      have i0 : 0 ≤ (i : Int) := by omega
      obtain ⟨tm, rs⟩ := s
      replace x0 : wr.cell? ⟨ba, oa + i * 2, none⟩ = some (.int .i64 tm) := x0
      clear hu
      go_wp2_with fail
      refine (r16check_any tm ao lo co rs m wr HU.out).mono ?_
      rintro e w2 ⟨rfl, hb⟩
      have B2 := Lib.hid (below_next B.out hb)
      clear hb x0 x1
      have x0 := cell_on B2.out X0.out
      replace x0 : w2.cell? ⟨ba, oa + i * 2, none⟩ = some (.int .i64 tm) := x0
      cases hm : mayS ⟨tm, rs⟩ m with
      | false =>
        have V := Lib.hid (NO.out fun q => by rw [mayS_yes q.1] at hm; cases hm)
        clear hm hs
        go_upto_region 5 with fail
        go_quiet (fail)
        go_wp2
        go_ret
        exact ⟨ret_b V.out.symm, bdN B2.out _⟩
      | true =>
        have MY := Lib.hid (mayS_true.mp hm)
        clear hm
        cases i with
        | zero =>
          have N1 := Lib.hid (NX.out ⟨MY.out, fun t h => by omega⟩)
          have d1 : decide ((0 : Int) < ((0 : Nat) : Int)) = false := by simp
          clear hs
          go_upto_region 5 with fail
          go_quiet (fail)
          go_wp2
          go_roundw
          case rel => exact ⟨1, by rfl, by omega, N1.out, bdN B2.out _⟩
          case measure => simp [intOf]; omega
        | succ j =>
          obtain ⟨t, ht, -⟩ := get_of (l := l) (i := j) (by rw [LN.out]; omega)
          have TM := Lib.hid ((T.out j t (by omega) ht).1)
          obtain ⟨b', o', ao', lo', co', e', z0, _, _⟩ := H.out.at ht
          cases e'
          have z0 := cell_on B2.out z0
          obtain ⟨tp, htp⟩ : ∃ x, t.tm = x := ⟨_, rfl⟩
          rw [htp] at z0
          have tb0 : 0 ≤ tp := by rw [← htp]; exact TM.out.t0
          have tb1 : tp ≤ 1099511627776 := by rw [← htp]; exact TM.out.t1
          have w1 : IntKind.i64.wrap (tp + 1) = tp + 1 := IntWalk.i64_in _ (by omega)
          have d1 : decide ((0 : Int) < ((j + 1 : Nat) : Int)) = true := decide_eq_true (by omega)
          have d2 : decide ((0 : Int) < (j : Int) + 1) = true := decide_eq_true (by omega)
          have w2' : IntKind.i64.wrap ((j : Int) + 1 - 1) = (j : Int) := by rw [show (j : Int) + 1 - 1 = j by omega]; exact IntWalk.i64_in _ (by omega)
          have j3 : (j : Int) < (len : Int) := by omega
          have j0 : 0 ≤ (j : Int) := by omega
          have HT := Lib.hid (show ∀ x : Sk, l[j + 1 - 1]? = some x → x.tm = tp from fun x hx => by
            rw [show j + 1 - 1 = j by omega, ht] at hx
            cases hx
            exact htp)
          have HT2 := Lib.hid (show l[j + 1 - 1]? = some t by rw [show j + 1 - 1 = j by omega]; exact ht)
          have HTP := Lib.hid htp
          clear ht htp hs
          by_cases e : tm = tp + 1
          · have d3 : (tm != tp + 1) = false := by simp [e]
            have N1 := Lib.hid (NX.out ⟨MY.out, fun x _ hx => by show tm = x.tm + 1; rw [HT.out x hx]; exact e⟩)
            clear e
            go_upto_region 5 with fail
            go_quiet (fail)
            go_wp2
            go_roundw
            case rel => exact ⟨j + 1 + 1, by go_num, by omega, N1.out, bdN B2.out _⟩
            case measure => simp [intOf]; omega
          · have d3 : (tm != tp + 1) = true := by simp [e]
            have V := Lib.hid (NO.out fun q => e (by have h1 := q.2 t (by omega) HT2.out; rw [HTP.out] at h1; exact h1))
            clear e
            go_upto_region 5 with fail
            go_quiet (fail)
            go_wp2
            go_ret
            exact ⟨ret_b V.out.symm, bdN B2.out _⟩
    · have b1 : decide ((i : Int) < (len : Int)) = false := by simp; omega
      have b1' : decide (i < len) = false := by simp; omega
      have V := Lib.hid (rowB_yes (show RowTo l m l.length by rw [LN.out, show len = i by omega]; exact T.out))
      go_wp2
      go_ret
      exact ⟨ret_b V.out.symm, B.out⟩
/-! ### Empty -/
def emS (l : List Sk) (m : Int) : Int := (l.map fun s => m - s.runs.length).sum
noncomputable def emV (l : List Sk) (m : Int) : Int := if rowB l m then emS l m else 0
theorem em_snoc (l : List Sk) (s : Sk) (m : Int) : emS (l ++ [s]) m = emS l m + (m - s.runs.length) := by unfold emS; simp
theorem em_bd : ∀ (l : List Sk) (m : Int), 1 ≤ m → m ≤ 1024 → (∀ s ∈ l, s.runs.length ≤ 4096) → -(4096 * l.length : Int) ≤ emS l m ∧ emS l m ≤ 1024 * l.length
  | [], m, _, _, _ => by simp [emS]
  | s :: l, m, h1, h2, h => by
    have h3 := h s List.mem_cons_self
    have h4 := em_bd l m h1 h2 fun x hx => h x (List.mem_cons_of_mem _ hx)
    have e : emS (s :: l) m = (m - s.runs.length) + emS l m := by unfold emS; simp
    rw [e, List.length_cons]
    omega
set_option maxRecDepth 20000 in
set_option maxHeartbeats 4000000 in
theorem r16empty_any (a : Option Addr) (len cap : Nat) (l : List Sk) (m : Int) (w : World) (h : RowK w a len cap l) (hs : SmallK l) :
    Calls Try.prog 26 #[.slice a len cap, .int .i64 m] w fun e w' => e = .returned (.int .i64 (emV l m)) ∧ Below w.heap.size w w' := by
  have H := Lib.hid h
  have LN := Lib.hid h.len
  have HS := Lib.hid hs
  have len4 : len ≤ 4096 := by rw [← h.len]; exact hs.a
  clear h hs
  go_enter Try.func26, Try.ntmps26
  go_wp2_with fail
  refine (r16row_any a len cap l m w H.out).mono ?_
  rintro e w1 ⟨rfl, hb⟩
  have B := Lib.hid hb
  have H1 := Lib.hid (H.out.below hb)
  clear hb
  cases hr : rowB l m with
  | false =>
    have V := Lib.hid (show emV l m = 0 by unfold emV; rw [hr]; rfl)
    clear hr
    go_wp2
    go_loopw [6, 7] (fun v u wr => v = .int .i64 0 ∧ u = .int .i64 0 ∧ w1 = wr) (fun _ _ _ => 0)
    case atStart => exact ⟨rfl, rfl, rfl⟩
    case round =>
      obtain ⟨rfl, rfl, rfl⟩ := hrel
      by_cases z : 0 < len
      · have b1 : decide ((0 : Int) < (len : Int)) = true := by simp; omega
        have b1' : decide (0 < len) = true := by simp; omega
        go_wp2
        go_ret
        exact ⟨by rw [V.out]; rfl, B.out⟩
      · have b1 : decide ((0 : Int) < (len : Int)) = false := by simp; omega
        have b1' : decide (0 < len) = false := by simp; omega
        go_wp2
        go_ret
        exact ⟨by rw [V.out]; rfl, B.out⟩
  | true =>
    have V := Lib.hid (show emV l m = emS l m by unfold emV; rw [hr]; rfl)
    have RT := Lib.hid (rowB_true.mp hr)
    clear hr
    go_wp2
    go_loopw [6, 7] (fun v u wr => ∃ i : Nat, u = .int .i64 i ∧ i ≤ len ∧ v = .int .i64 (emS (l.take i) m) ∧ w1 = wr) (fun _ u _ => len - (intOf u).toNat)
    case atStart => exact ⟨0, rfl, by omega, by simp [emS], rfl⟩
    case round =>
      obtain ⟨i, rfl, i1, rfl, rfl⟩ := hrel
      by_cases go : i < len
      · have b1 : decide ((i : Int) < (len : Int)) = true := by simp; omega
        have b1' : decide (i < len) = true := by simp; omega
        obtain ⟨s, hs, hts⟩ := get_of (l := l) (i := i) (by rw [LN.out]; exact go)
        have MS := RT.out i s (by rw [LN.out]; exact go) hs
        have m1 := MS.1.m1
        have m2 := MS.1.m2
        have EN := Lib.hid (show emS (l.take (i + 1)) m = emS (l.take i) m + (m - s.runs.length) by rw [hts, em_snoc])
        have RL := HS.out.b s (List.mem_of_getElem? hs)
        have bd := em_bd (l.take i) m m1 m2 fun x hx => HS.out.b x (List.mem_of_mem_take hx)
        rw [List.length_take] at bd
        obtain ⟨ba, oa, ao, lo, co, rfl, x0, x1, hu⟩ := H1.out.at hs
        rw [hu.len] at RL EN
        have i3 : (i : Int) < (len : Int) := by omega
        have i0 : 0 ≤ (i : Int) := by omega
        obtain ⟨q, hq⟩ : ∃ q, emS (l.take i) m = q := ⟨_, rfl⟩
        rw [hq] at EN bd ⊢
        have q0 : -16777216 ≤ q := by omega
        have q1 : q ≤ 16777216 := by omega
        clear hs hts MS hu hq x0 bd
        go_wp2
        go_roundw
        case rel => exact ⟨i + 1, by go_num, by omega, by rw [EN.out], by trivial⟩
        case measure => simp [intOf]; omega
      · have b1 : decide ((i : Int) < (len : Int)) = false := by simp; omega
        have b1' : decide (i < len) = false := by simp; omega
        have e : l.take i = l := List.take_of_length_le (by rw [LN.out]; omega)
        rw [e]
        clear e
        go_wp2
        go_ret
        exact ⟨by rw [V.out]; rfl, B.out⟩
end Go.Proofs.Ytndhpihgeacdfaa

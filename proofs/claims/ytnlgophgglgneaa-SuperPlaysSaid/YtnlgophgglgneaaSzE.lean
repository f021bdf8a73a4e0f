/-
  Package super, and the document: which parts may be: contracts.
  Package super: the least period; Weight: contracts.
  Package super: Weight: contract.
-/
import Derived.Test.YtnlgophgglgneaaSvA
import Derived.Test.YtnlgophgglgneaaRatA
import Derived.Test.YtnlgophgglgneaaWrA
import Derived.Deep.RegionHeld3
import Derived.Test.YtnlgophgglgneaaExA
import Derived.Test.YtnlgophgglgneaaSzC
import Derived.Laws.MakeOwn
namespace Go.Proofs.Ytnlgophgglgneaa
open Go.RowKit

theorem may_take {ps : List (Int × Int)} {i : Nat} (hi : i < ps.length) (h : ∀ p ∈ ps.take i, MayBe p.1 p.2) (g : MayBe (eP ps i) (pP ps i)) : ∀ p ∈ ps.take (i + 1), MayBe p.1 p.2 := by
  intro p hp
  rw [List.take_add_one, List.getElem?_eq_getElem hi] at hp
  rcases List.mem_append.mp hp with q | q
  · exact h p q
  · simp at q
    subst q
    unfold eP pP at g
    rw [List.getD_eq_getElem?_getD, List.getElem?_eq_getElem hi] at g
    exact g
theorem may_not {ps : List (Int × Int)} {i : Nat} (hi : i < ps.length) (g : ¬ MayBe (eP ps i) (pP ps i)) : ¬ MayP ps := fun h => g (MayP.at_ h.each hi)
instance (E P : Int) : Decidable (MayBe E P) := by unfold MayBe; infer_instance
set_option maxHeartbeats 2000000 in
theorem scheck_any (a : Option Addr) (len cap : Nat) (ps : List (Int × Int)) (w : World) (h : RowP w a len cap ps) (b : Bool) (hb : b = true ↔ MayP ps) :
    Calls Try.prog 33 #[.slice a len cap] w fun e w' => e = .returned (.bool b) ∧ Below w.heap.size w w' := by
  have H := Lib.hid h
  have LN := Lib.hid h.len
  have ⟨k1, k2⟩ := h.cap_le
  have HB := Lib.hid hb
  clear h hb
  by_cases g1 : len < 1
  · have t1 : decide (len < 1) = true := by simp; omega
    have t2 : decide ((len : Int) < 1) = true := by simp; omega
    obtain rfl : b = false := by
      cases b with
      | false => rfl
      | true => have := (HB.out.mp rfl).some_; have := LN.out; omega
    go_enter Try.func33, Try.ntmps33
    go_wp2
    go_ret
    exact ⟨rfl, Below.refl _ _⟩
  · have t1 : decide (len < 1) = false := by simp; omega
    have t2 : decide ((len : Int) < 1) = false := by simp; omega
    by_cases g2 : 8 < len
    · have t3 : decide (8 < len) = true := by simp; omega
      have t4 : decide (8 < (len : Int)) = true := by simp; omega
      obtain rfl : b = false := by
        cases b with
        | false => rfl
        | true => have := (HB.out.mp rfl).few; have := LN.out; omega
      go_enter Try.func33, Try.ntmps33
      go_wp2
      go_ret
      exact ⟨rfl, Below.refl _ _⟩
    · have t3 : decide (8 < len) = false := by simp; omega
      have t4 : decide (8 < (len : Int)) = false := by simp; omega
      go_enter Try.func33, Try.ntmps33
      go_wp2
      clear t1 t2 t3 t4
      go_loopw [15] (fun v wr => ∃ i : Nat, v = .int .i64 i ∧ i ≤ len ∧ (∀ p ∈ ps.take i, MayBe p.1 p.2) ∧ Below w.heap.size w wr) (fun v _ => len - (intOf v).toNat)
      case atStart => exact ⟨0, rfl, by omega, (fun p hp => by simp at hp), Below.refl _ _⟩
      case round =>
        obtain ⟨i, rfl, i1, hm, hB⟩ := hrel
        have MM := Lib.hid hm
        have B := Lib.hid hB
        have HR := Lib.hid (H.out.below hB)
        clear hm hB
        by_cases go : i < len
        · have b1 : decide (i < len) = true := by simp; omega
          have b2 : decide ((i : Int) < (len : Int)) = true := by simp; omega
          have hi := Lib.hid (show i < ps.length by rw [LN.out]; exact go)
          have i0 : 0 ≤ (i : Int) := by omega
          have i2 : (i : Int) < (len : Int) := by omega
          obtain ⟨ba, oa, rfl, hx, hy⟩ := HR.out.cell go
          obtain ⟨E, hE⟩ : ∃ E, (ps.getD i (0, 0)).1 = E := ⟨_, rfl⟩
          obtain ⟨P, hP⟩ : ∃ P, (ps.getD i (0, 0)).2 = P := ⟨_, rfl⟩
          rw [hE] at hx
          rw [hP] at hy
          have EE := Lib.hid (show eP ps i = E ∧ pP ps i = P from ⟨hE, hP⟩)
          clear hE hP
          obtain ⟨W4, hW4⟩ : ∃ W4, wr.alloc (.cells #[.int .i64 E, .int .i64 P] 62) = W4 := ⟨_, rfl⟩
          have X4 := Lib.hid (show Blk W4 62 wr.heap.size #[.int .i64 E, .int .i64 P] by rw [← hW4]; exact Blk.new _ _ _)
          have B4 := Lib.hid (show Below w.heap.size w W4 by rw [← hW4]; exact below_next B.out (wbox _ _))
          have x0 := X4.out.cell 0
          have x1 := X4.out.cell 1
          simp at x0 x1
          by_cases hM : MayBe E P
          · have HM := Lib.hid hM
            clear hM
            go_wp2_with fail
            refine (wcheck_any E P _ true ⟨fun _ => HM.out, fun _ => rfl⟩).mono ?_
            rintro e w5 ⟨rfl, hb5⟩
            have B5 := Lib.hid (below_next B4.out hb5)
            clear hb5
            go_wp2
            go_roundw
            case rel => exact ⟨i + 1, by go_num, by omega, may_take hi.out MM.out (by rw [EE.out.1, EE.out.2]; exact HM.out), B5.out⟩
            case measure => simp [intOf]; omega
          · have HM := Lib.hid hM
            clear hM
            obtain rfl : b = false := by
              cases b with
              | false => rfl
              | true => exact absurd (HB.out.mp rfl) (may_not hi.out (by rw [EE.out.1, EE.out.2]; exact HM.out))
            go_wp2_with fail
            refine (wcheck_any E P _ false ⟨(fun h => by cases h), fun h => absurd h HM.out⟩).mono ?_
            rintro e w5 ⟨rfl, hb5⟩
            have B5 := Lib.hid (below_next B4.out hb5)
            clear hb5
            go_wp2
            go_ret
            exact ⟨rfl, B5.out⟩
        · have b1 : decide (i < len) = false := by simp; omega
          have b2 : decide ((i : Int) < (len : Int)) = false := by simp; omega
          obtain rfl : b = true := HB.out.mpr ⟨by rw [LN.out]; omega, by rw [LN.out]; omega, fun p hp => MM.out p (by rw [List.take_of_length_le (by rw [LN.out]; omega)]; exact hp)⟩
          go_wp2
          go_ret
          exact ⟨rfl, B.out⟩
set_option maxHeartbeats 2000000 in
theorem r14check_any (a : Option Addr) (len cap : Nat) (ps : List (Int × Int)) (w : World) (h : RowP w a len cap ps) (b : Bool) (hb : b = true ↔ MayP ps) :
    Calls Try.prog 35 #[.slice a len cap] w fun e w' => e = .returned (.bool b) ∧ Below w.heap.size w w' := by
  have H := Lib.hid h
  have LN := Lib.hid h.len
  have ⟨k1, k2⟩ := h.cap_le
  have HB := Lib.hid hb
  clear h hb
  go_enter Try.func35, Try.ntmps35
  go_wp2
  go_loopw [3] (fun v wr => ∃ i : Nat, v = .int .i64 i ∧ i ≤ len ∧ (∀ p ∈ ps.take i, MayBe p.1 p.2) ∧ Below w.heap.size w wr) (fun v _ => len - (intOf v).toNat)
  case atStart => exact ⟨0, rfl, by omega, (fun p hp => by simp at hp), Below.refl _ _⟩
  case round =>
    obtain ⟨i, rfl, i1, hm, hB⟩ := hrel
    have MM := Lib.hid hm
    have B := Lib.hid hB
    have HR := Lib.hid (H.out.below hB)
    clear hm hB
    by_cases go : i < len
    · have b1 : decide (i < len) = true := by simp; omega
      have b2 : decide ((i : Int) < (len : Int)) = true := by simp; omega
      have hi := Lib.hid (show i < ps.length by rw [LN.out]; exact go)
      have i0 : 0 ≤ (i : Int) := by omega
      have i2 : (i : Int) < (len : Int) := by omega
      obtain ⟨ba, oa, rfl, hx, hy⟩ := HR.out.cell go
      obtain ⟨E, hE⟩ : ∃ E, (ps.getD i (0, 0)).1 = E := ⟨_, rfl⟩
      obtain ⟨P, hP⟩ : ∃ P, (ps.getD i (0, 0)).2 = P := ⟨_, rfl⟩
      rw [hE] at hx
      rw [hP] at hy
      have EE := Lib.hid (show eP ps i = E ∧ pP ps i = P from ⟨hE, hP⟩)
      clear hE hP
      obtain ⟨t, ht⟩ : ∃ t : Bool, t = true ↔ MayBe E P := ⟨decide (MayBe E P), by simp⟩
      have HT := Lib.hid ht
      clear ht
      have CL := Lib.hid (show wr.drew.cell? ⟨ba, oa + i * 2, none⟩ = some (.int .i64 E) ∧ wr.drew.cell? ⟨ba, oa + i * 2 + 1, none⟩ = some (.int .i64 P) from ⟨hx, hy⟩)
      go_wp2_with fail
      go_region_held3 (fun W => W.cell? ⟨ba, oa + i * 2, none⟩ = some (.int .i64 E) ∧ W.cell? ⟨ba, oa + i * 2 + 1, none⟩ = some (.int .i64 P))
        (first | exact CL.out | exact ⟨(H4.out.cell (p := ⟨ba, oa + i * 2, none⟩) (World.block_lt_of_cell? _ _ CL.out.1)).trans CL.out.1, (H4.out.cell (p := ⟨ba, oa + i * 2 + 1, none⟩) (World.block_lt_of_cell? _ _ CL.out.2)).trans CL.out.2⟩)
        ((go_at_call 31; (with_reducible refine (r4check_any E P _ t HT.out).mono ?_); rintro e w4 ⟨rfl, hb4⟩; have H4 := Lib.hid hb4; clear hb4))
      all_goals
        have B4 := Lib.hid (below_next (below_next B.out (show Below wr.heap.size wr wr.drew from (Below.refl _ _).drew)) H4.out)
        cases t with
        | true =>
          go_wp2
          go_roundw
          case rel => exact ⟨i + 1, by go_num, by omega, may_take hi.out MM.out (by rw [EE.out.1, EE.out.2]; exact HT.out.mp rfl), B4.out⟩
          case measure => simp [intOf]; omega
        | false =>
          obtain rfl : b = false := by
            cases b with
            | false => rfl
            | true => exact absurd (HB.out.mp rfl) (may_not hi.out (by rw [EE.out.1, EE.out.2]; intro q; have := HT.out.mpr q; cases this))
          go_wp2
          go_ret
          exact ⟨rfl, B4.out⟩
    · have b1 : decide (i < len) = false := by simp; omega
      have b2 : decide ((i : Int) < (len : Int)) = false := by simp; omega
      have BE := Lib.hid (show b = true ↔ 1 ≤ len ∧ len ≤ 8 by
        rw [HB.out]
        constructor
        · intro q; have h1 := q.some_; have h2 := q.few; rw [LN.out] at h1 h2; exact ⟨h1, h2⟩
        · intro q; exact ⟨by rw [LN.out]; omega, by rw [LN.out]; omega, fun p hp => MM.out p (by rw [List.take_of_length_le (by rw [LN.out]; omega)]; exact hp)⟩)
      by_cases g1 : 1 ≤ len
      · have t1 : decide (1 ≤ len) = true := by simp; omega
        have t2 : decide (1 ≤ (len : Int)) = true := by simp; omega
        by_cases g2 : len ≤ 8
        · have t3 : decide (len ≤ 8) = true := by simp; omega
          have t4 : decide ((len : Int) ≤ 8) = true := by simp; omega
          obtain rfl : b = true := BE.out.mpr ⟨g1, g2⟩
          go_wp2
          go_ret
          exact ⟨rfl, B.out⟩
        · have t3 : decide (len ≤ 8) = false := by simp; omega
          have t4 : decide ((len : Int) ≤ 8) = false := by simp; omega
          obtain rfl : b = false := by
            cases b with
            | false => rfl
            | true => exact absurd (BE.out.mp rfl).2 g2
          go_wp2
          go_ret
          exact ⟨rfl, B.out⟩
      · have t1 : decide (1 ≤ len) = false := by simp; omega
        have t2 : decide (1 ≤ (len : Int)) = false := by simp; omega
        obtain rfl : b = false := by
          cases b with
          | false => rfl
          | true => exact absurd (BE.out.mp rfl).1 g1
        go_wp2
        go_ret
        exact ⟨rfl, B.out⟩
end Go.Proofs.Ytnlgophgglgneaa
namespace Go.Proofs.Ytnlgophgglgneaa
open Go.RowKit

/-- a row of numbers of one's own, or not -/
theorem smin_any (g len cap : Nat) (zs : List Int) (ps : List (Int × Int)) (w : World) (h : Row .i64 w (some ⟨g, 0, none⟩) len cap zs) (h1 : 1 ≤ len) (he : ∀ i, i < len → zs.getD i 0 = pP ps i) (v : Int) (hv : lstV ps (len - 1) = v) :
    Calls Try.prog 48 #[.slice (some ⟨g, 0, none⟩) len cap] w fun e w' => e = .returned (.int .i64 v) ∧ ∃ n, w' = w.drewN n := by
  subst hv
  have ⟨k1, k2⟩ := h.cap_le
  have CL := Lib.hid (show ∀ i, i < len → w.cell? ⟨g, i, none⟩ = some (.int .i64 (pP ps i)) from fun i hi => by
    obtain ⟨b, off, e, hc⟩ := h.cell hi
    simp only [Option.some.injEq, Addr.mk.injEq, and_true] at e
    obtain ⟨rfl, rfl⟩ := e
    rw [Nat.zero_add, he i hi] at hc
    exact hc)
  clear h he
  have t1 : decide (len < 1) = false := by simp; omega
  have t2 : decide ((len : Int) < 1) = false := by simp; omega
  have c0 := CL.out 0 (by omega)
  have z0 : 0 < len := by omega
  have z1 : (0 : Int) < (len : Int) := by omega
  go_enter Try.func48, Try.ntmps48
  go_wp2
  clear t1 t2 c0 z0 z1
  go_loopw [3, 4] (fun u v wr => ∃ i k : Nat, v = .int .i64 ((i : Int) + 1) ∧ i < len ∧ u = .int .i64 (lstV ps i) ∧ wr = w.drewN k) (fun _ v _ => len - (intOf v).toNat)
  case atStart => exact ⟨0, 0, rfl, by omega, rfl, rfl⟩
  case round =>
    obtain ⟨i, k, rfl, i1, rfl, rfl⟩ := hrel
    by_cases go : i + 1 < len
    · have b1 : decide ((i : Int) + 1 < (len : Int)) = true := by simp; omega
      have LS := Lib.hid (lst_succ (ps := ps) (i := i))
      have c1 := CL.out (i + 1) go
      obtain ⟨A, hA⟩ : ∃ A, lstV ps i = A := ⟨_, rfl⟩
      obtain ⟨B, hB⟩ : ∃ B, pP ps (i + 1) = B := ⟨_, rfl⟩
      rw [hA, hB] at LS
      rw [hB] at c1
      rw [hA]
      clear hA hB
      have i0 : 0 ≤ (i : Int) + 1 := by omega
      have i2 : (i : Int) + 1 < (len : Int) := by omega
      have i3 : ((i : Int) + 1).toNat = i + 1 := by omega
      have i4 : IntKind.i64.wrap ((i : Int) + 1) = (i : Int) + 1 := IntWalk.i64_in _ (by omega)
      go_wp2
      go_roundw
      case rel => exact ⟨i + 1, k, by go_num, by omega, by rw [LS.out], rfl⟩
      case measure => simp [intOf]; omega
    · have b1 : decide ((i : Int) + 1 < (len : Int)) = false := by simp; omega
      have EI := Lib.hid (show lstV ps i = lstV ps (len - 1) by congr 1; omega)
      rw [EI.out]
      go_wp2
      go_ret
      exact ⟨rfl, _, rfl⟩
end Go.Proofs.Ytnlgophgglgneaa
namespace Go.Proofs.Ytnlgophgglgneaa
open Go.RowKit

theorem Try.infoI64 : (Try.prog.info? 2).map (fun i => (i.zero, i.size, i.bytes)) = some (some (.int .i64 0), 1, 8) := by kernel_rfl
theorem made_ints (n : Nat) : madeCells (Value.int .i64 0).cells (n * 1) = ((List.replicate n (0 : Int)).map (Value.int .i64)).toArray := by
  apply Array.ext'
  rw [Nat.mul_one, show (Value.int .i64 0).cells = #[Value.int .i64 0] from rfl, toList_madeCells_one, List.map_replicate]
theorem make_ints (n : Nat) (hn : n ≤ 1000) (w : World) : (Instr.makeSlice 76 (.int .i64 (n : Int)) (.int .i64 (n : Int))).run Try.prog w = .ok (.slice (some ⟨w.heap.size, 0, none⟩) n n) (w.alloc (.cells ((List.replicate n (0 : Int)).map (Value.int .i64)).toArray 2)) := by
  obtain ⟨i0, hi, hz0, hz1, hz2⟩ := info_parts Try.infoI64
  have h := run_make (P := Try.prog) w 76 2 i0 (.int .i64 0) Try.underlying76 hi hz0 .i64 .i64 n n (by omega) (by omega) (by rw [hz2]; omega) (by omega)
  rw [hz1] at h
  rw [← made_ints]
  simpa using h
/-- periods laid so far -/
def perV (ps : List (Int × Int)) (i len : Nat) : List Int := (List.range len).map fun k => if k < i then pP ps k else 0
theorem perV_zero (ps : List (Int × Int)) (len : Nat) : perV ps 0 len = List.replicate len 0 := by
  unfold perV
  apply List.ext_getElem?
  intro j
  by_cases h : j < len
  · rw [List.getElem?_map, List.getElem?_range h, List.getElem?_replicate_of_lt h]; simp
  · rw [List.getElem?_eq_none (by simpa using h), List.getElem?_eq_none (by simpa using h)]
theorem perV_len (ps : List (Int × Int)) (i len : Nat) : (perV ps i len).length = len := by unfold perV; simp
theorem perV_set {ps : List (Int × Int)} {i len : Nat} (h : i < len) : ((perV ps i len).map (Value.int .i64)).set i (.int .i64 (pP ps i)) = (perV ps (i + 1) len).map (Value.int .i64) := by
  apply List.ext_getElem?
  intro j
  by_cases hj : j < len
  · by_cases e : j = i
    · subst e
      rw [List.getElem?_set_self (by rw [List.length_map, perV_len]; exact hj)]
      unfold perV
      rw [List.map_map, List.getElem?_map, List.getElem?_range hj]
      simp
    · rw [List.getElem?_set_ne (Ne.symm e)]
      unfold perV
      rw [List.map_map, List.map_map, List.getElem?_map, List.getElem?_map, List.getElem?_range hj]
      simp only [Option.map_some, Function.comp]
      congr 3
      exact propext ⟨fun _ => by omega, fun _ => by omega⟩
  · rw [List.getElem?_eq_none (by rw [List.length_set, List.length_map, perV_len]; omega), List.getElem?_eq_none (by rw [List.length_map, perV_len]; omega)]
theorem perV_all {ps : List (Int × Int)} : perV ps ps.length ps.length = ps.map Prod.snd := by
  apply List.ext_getElem?
  intro j
  by_cases hj : j < ps.length
  · unfold perV
    rw [List.getElem?_map, List.getElem?_range hj, List.getElem?_map, List.getElem?_eq_getElem hj]
    simp only [Option.map_some, if_pos hj]
    unfold pP
    rw [List.getD_eq_getElem?_getD, List.getElem?_eq_getElem hj]
    rfl
  · rw [List.getElem?_eq_none (by rw [perV_len]; omega), List.getElem?_eq_none (by rw [List.length_map]; omega)]
theorem perV_at {ps : List (Int × Int)} {i : Nat} (h : i < ps.length) : (ps.map Prod.snd).getD i 0 = pP ps i := by
  rw [List.getD_eq_getElem?_getD, List.getElem?_map, List.getElem?_eq_getElem h]
  unfold pP
  rw [List.getD_eq_getElem?_getD, List.getElem?_eq_getElem h]
  rfl
theorem row_at {W : World} {base g n cap : Nat} {T : TypeId} {zs : List Int} (h : W.ownsRow base T 1 (.slice (some ⟨g, 0, none⟩) n cap) n (zs.map (Value.int .i64))) : Row .i64 W (some ⟨g, 0, none⟩) n cap zs := by
  obtain ⟨a, c, hv, hr, _⟩ := row_of_owns h
  simp only [Value.slice.injEq, true_and] at hv
  obtain ⟨rfl, rfl⟩ := hv
  exact hr
theorem Row.at0 {W : World} {g n cap : Nat} {zs : List Int} (h : Row .i64 W (some ⟨g, 0, none⟩) n cap zs) (i : Nat) (hi : i < n) : W.cell? ⟨g, i, none⟩ = some (.int .i64 (zs.getD i 0)) := by
  obtain ⟨b, off, e, hc⟩ := h.cell hi
  simp only [Option.some.injEq, Addr.mk.injEq, and_true] at e
  obtain ⟨rfl, rfl⟩ := e
  rw [Nat.zero_add] at hc
  exact hc
/-- what Weight carries along -/
structure WgS (w W : World) (a : Option Addr) (len cap : Nat) (ps : List (Int × Int)) (gp i : Nat) : Prop where
  parts : RowP W a len cap ps
  box : Blk W 32 w.heap.size #[.int .i64 0, .int .i64 0]
  row : W.ownsRow gp 2 1 (.slice (some ⟨gp, 0, none⟩) len len) len ((perV ps i len).map (Value.int .i64))
  bel : Below w.heap.size w W
theorem WgS.below {w W W' : World} {a : Option Addr} {len cap : Nat} {ps : List (Int × Int)} {gp i : Nat} (h : WgS w W a len cap ps gp i) (hb : Below W.heap.size W W') : WgS w W' a len cap ps gp i := ⟨h.parts.below hb, h.box.below hb, owns_below h.row hb, below_next h.bel hb⟩
theorem WgS.drewN {w W : World} {a : Option Addr} {len cap : Nat} {ps : List (Int × Int)} {gp i : Nat} (h : WgS w W a len cap ps gp i) (n : Nat) : WgS w (W.drewN n) a len cap ps gp i := h.below ((below_drews (Below.refl _ _) n))
theorem RowP.grown_set {W : World} {b off : Nat} {len cap : Nat} {ps : List (Int × Int)} {p : Addr} {u : Value} (h : RowP W (some ⟨b, off, none⟩) len cap ps) (hn : b ≠ p.block) : RowP (W.setCell p u) (some ⟨b, off, none⟩) len cap ps := by
  refine ⟨h.1, h.2.1, h.2.2.1, h.2.2.2.1, fun i hi => ?_⟩
  obtain ⟨b', off', ha, hc1, hc2⟩ := h.2.2.2.2 i hi
  simp only [Option.some.injEq, Addr.mk.injEq, and_true] at ha
  obtain ⟨rfl, rfl⟩ := ha
  have hh := Below.heap_setCell W p u b hn
  exact ⟨b, off, rfl, (World.cell?_of_block (w := W) (a := ⟨b, off + i * 2, none⟩) hh).trans hc1, (World.cell?_of_block (w := W) (a := ⟨b, off + i * 2 + 1, none⟩) hh).trans hc2⟩
set_option maxRecDepth 20000 in
set_option maxHeartbeats 4000000 in
theorem sweight_no (a : Option Addr) (len cap : Nat) (ps : List (Int × Int)) (w : World) (h : RowP w a len cap ps) (hn : ¬ MayP ps) :
    Calls Try.prog 25 #[.slice a len cap] w fun z w' => z = .returned (.tuple #[.agg #[.int .i64 0, .int .i64 0], .int .i64 1]) ∧ Below w.heap.size w w' := by
  obtain ⟨W1, hW1⟩ : ∃ W1, w.alloc (.cells #[.int .i64 0, .int .i64 0] 32) = W1 := ⟨_, rfl⟩
  have B1 := Lib.hid (show Below w.heap.size w W1 by rw [← hW1]; exact wbox _ _)
  have R1 := Lib.hid (show Blk W1 32 w.heap.size #[.int .i64 0, .int .i64 0] by rw [← hW1]; exact Blk.new w _ _)
  have H1 := Lib.hid (h.below B1.out)
  have HN := Lib.hid hn
  clear h hn
  go_enter Try.func25, Try.ntmps25
  go_wp2_with fail
  clear hW1
  refine (scheck_any a len cap ps W1 H1.out false ⟨(fun h => by cases h), fun h => absurd h HN.out⟩).mono ?_
  rintro e w2 ⟨rfl, hb⟩
  have B2 := Lib.hid (below_next B1.out hb)
  have R2 := Lib.hid (R1.out.below hb)
  clear hb
  have x0 := R2.out.cell 0; have x1 := R2.out.cell 1
  simp at x0 x1
  have fz : ∀ o, w2.frozen? ⟨w.heap.size, o, none⟩ = false := fun o => R2.out.free o
  go_wp2
  exact bodyPost_ret (v := .tuple #[.agg #[.int .i64 0, .int .i64 0], .int .i64 1]) (by simp [results, Try.results25, go_sem, x0, x1]) rfl ⟨rfl, (B2.out.setCell (Nat.le_refl _) _).setCell (Nat.le_refl _) _⟩
set_option maxRecDepth 20000 in
set_option maxHeartbeats 4000000 in
theorem sweight_yes (a : Option Addr) (len cap : Nat) (ps : List (Int × Int)) (w : World) (h : RowP w a len cap ps) (hM : MayP ps) (E P er : Int) (hv : wgtV ps = (E, P, er)) :
    Calls Try.prog 25 #[.slice a len cap] w fun z w' => z = .returned (.tuple #[.agg #[.int .i64 E, .int .i64 P], .int .i64 er]) ∧ Below w.heap.size w w' := by
  obtain ⟨W1, hW1⟩ : ∃ W1, w.alloc (.cells #[.int .i64 0, .int .i64 0] 32) = W1 := ⟨_, rfl⟩
  have B1 := Lib.hid (show Below w.heap.size w W1 by rw [← hW1]; exact wbox _ _)
  have R1 := Lib.hid (show Blk W1 32 w.heap.size #[.int .i64 0, .int .i64 0] by rw [← hW1]; exact Blk.new w _ _)
  have H1 := Lib.hid (h.below B1.out)
  have LN := Lib.hid h.len
  have ⟨k1, k2⟩ := h.cap_le
  have HM := Lib.hid hM
  have HV := Lib.hid hv
  have l1 : 1 ≤ len := by have := hM.some_; rw [h.len] at this; exact this
  have l8 : len ≤ 8 := by have := hM.few; rw [h.len] at this; exact this
  clear h hM hv
  go_enter Try.func25, Try.ntmps25
  go_wp2_with fail
  clear hW1
  refine (scheck_any a len cap ps W1 H1.out true ⟨(fun _ => HM.out), (fun _ => rfl)⟩).mono ?_
  rintro e w2 ⟨rfl, hb⟩
  have B2 := Lib.hid (below_next B1.out hb)
  have R2 := Lib.hid (R1.out.below hb)
  have H2 := Lib.hid (H1.out.below hb)
  clear hb B1 R1 H1
  have zw : w.heap.size < w2.heap.size := R2.out.lt
  obtain ⟨gp, hgp⟩ : ∃ gp, w2.heap.size = gp := ⟨_, rfl⟩
  obtain ⟨W3, hW3⟩ : ∃ W3, w2.alloc (.cells ((List.replicate len (0 : Int)).map (Value.int .i64)).toArray 2) = W3 := ⟨_, rfl⟩
  have B3 := Lib.hid (show Below w.heap.size w W3 by rw [← hW3]; exact below_next B2.out (wbox _ _))
  have R3 := Lib.hid (show Blk W3 32 w.heap.size #[.int .i64 0, .int .i64 0] by rw [← hW3]; exact R2.out.alloc _)
  have H3 := Lib.hid (show RowP W3 a len cap ps by rw [← hW3]; exact H2.out.below (wbox _ _))
  have O3 := Lib.hid (show W3.ownsRow gp 2 1 (.slice (some ⟨gp, 0, none⟩) len len) len ((perV ps 0 len).map (Value.int .i64)) by
    rw [← hW3, perV_zero, ← hgp]
    refine ⟨by simp, .inr ⟨w2.heap.size, len, _, rfl, Nat.le_refl _, heap_alloc_new _ _, Nat.le_refl _, by unfold maxLen; omega, by simp, by simp⟩⟩)
  have hmk := make_ints len (by omega) w2
  rw [hgp, hW3] at hmk
  rw [hgp] at zw
  have SEP := Lib.hid (show a = none ∨ ∀ ba oa, a = some ⟨ba, oa, none⟩ → ba ≠ gp from .inr fun ba oa e => by
    subst e
    obtain ⟨b', o', e', hc, _⟩ := H2.out.cell (i := 0) (by omega)
    simp only [Option.some.injEq, Addr.mk.injEq, and_true] at e'
    obtain ⟨rfl, rfl⟩ := e'
    have := World.block_lt_of_cell? _ _ hc
    rw [hgp] at this
    have h2 : ba < gp := this
    omega)
  clear hgp hW3
  go_wp2_with fail
  go_loopw [22] (fun v wr => ∃ i : Nat, v = .int .i64 i ∧ i ≤ len ∧ WgS w wr a len cap ps gp i) (fun v _ => len - (intOf v).toNat)
  case atStart => exact ⟨0, rfl, by omega, ⟨H3.out, R3.out, O3.out, B3.out⟩⟩
  case round =>
    obtain ⟨i, rfl, i1, hW⟩ := hrel
    have S := Lib.hid hW
    clear hW
    by_cases go : i < len
    · have b1 : decide (i < len) = true := by simp; omega
      have b2 : decide ((i : Int) < (len : Int)) = true := by simp; omega
      have i0 : 0 ≤ (i : Int) := by omega
      have i2 : (i : Int) < (len : Int) := by omega
      have PS := Lib.hid (perV_set (ps := ps) go)
      obtain ⟨ba, oa, rfl, hx, hy⟩ := S.out.parts.cell go
      obtain ⟨E1, hE⟩ : ∃ E, (ps.getD i (0, 0)).1 = E := ⟨_, rfl⟩
      obtain ⟨P1, hP⟩ : ∃ P, (ps.getD i (0, 0)).2 = P := ⟨_, rfl⟩
      rw [hE] at hx
      rw [hP] at hy
      have PP := Lib.hid (show pP ps i = P1 from hP)
      rw [PP.out] at PS
      clear hE hP
      obtain ⟨W4, hW4⟩ : ∃ W4, wr.alloc (.cells #[.int .i64 E1, .int .i64 P1] 62) = W4 := ⟨_, rfl⟩
      have X4 := Lib.hid (show Blk W4 62 wr.heap.size #[.int .i64 E1, .int .i64 P1] by rw [← hW4]; exact Blk.new _ _ _)
      have S4 := Lib.hid (show WgS w W4 (some ⟨ba, oa, none⟩) len cap ps gp i by rw [← hW4]; exact S.out.below (wbox _ _))
      have x1 := X4.out.cell 1
      simp at x1
      have y1 := (row_at S4.out.row).at0 i go
      have fz : ∀ o, W4.frozen? ⟨gp, o, none⟩ = false := fun o => S4.out.row.frozenAt o
      go_wp2
      go_roundw
      case rel =>
        refine ⟨i + 1, by go_num, by omega, ?_⟩
        have h1 := (S4.out.row.stored i (.int .i64 P1)).1
        rw [PS.out] at h1
        exact ⟨S4.out.parts.grown_set (by have := SEP.out; rcases this with q | q; cases q; exact q ba oa rfl), S4.out.box.far (by simp; omega) _, h1, S4.out.bel.setCell (by simp; omega) _⟩
      case measure => simp [intOf]; omega
    · have b1 : decide (i < len) = false := by simp; omega
      have b2 : decide ((i : Int) < (len : Int)) = false := by simp; omega
      obtain rfl : i = len := by omega
      have EP := Lib.hid (show perV ps i i = ps.map Prod.snd by rw [← perV_all, LN.out])
      have SR := Lib.hid (row_at S.out.row)
      have LC := Lib.hid (Ex.lcm_row (perV ps i i) gp 0 i wr (fun z hz => by
          rw [EP.out] at hz
          obtain ⟨q, hq, rfl⟩ := List.mem_map.mp hz
          have := HM.out.each q hq
          have m1 := this.1; have m2 := this.2.1; have m3 := this.2.2
          exact ⟨by omega, by omega⟩) (by rw [perV_len]; omega) (fun j hj => by rw [Nat.zero_add]; exact SR.out.at0 j (by rw [perV_len] at hj; exact hj)))
      rw [perV_len, EP.out] at LC
      have LV := Lib.hid (show (Ex.rowL 1 (ps.map Prod.snd)).1 = lcmV ps ∧ (Ex.rowL 1 (ps.map Prod.snd)).2 = lcmE ps from ⟨rfl, rfl⟩)
      rw [LV.out.1, LV.out.2] at LC
      have LF := Lib.hid (fun (e : lcmE ps = 0) => lcm_facts e)
      have UB := Lib.hid (fun (q : Int) (h0 : 0 ≤ q) (j : Nat) (hj : j ≤ ps.length) => use_bd HM.out.each h0 j hj)
      have UT := Lib.hid (fun (q : Int) (h0 : 0 ≤ q) (j : Nat) (hj : j < ps.length) => use_term HM.out.each h0 hj)
      have US := Lib.hid (fun (q : Int) (j : Nat) => use_succ (ps := ps) (q := q) (i := j))
      have W16 := Lib.hid (fun (g : lcmE ps ≠ 0 ∨ 1048576 < lcmV ps) => wgt_over HM.out g)
      have W18 := Lib.hid (fun (g : ¬ (lcmE ps ≠ 0 ∨ 1048576 < lcmV ps)) (k : lcmV ps < useV ps (lcmV ps) ps.length) => wgt_quota HM.out g k)
      have WOK := Lib.hid (fun (g : ¬ (lcmE ps ≠ 0 ∨ 1048576 < lcmV ps)) (k : ¬ lcmV ps < useV ps (lcmV ps) ps.length) => wgt_ok HM.out g k)
      obtain ⟨Q, hQ⟩ : ∃ Q, lcmV ps = Q := ⟨_, rfl⟩
      obtain ⟨qe, hqe⟩ : ∃ q, lcmE ps = q := ⟨_, rfl⟩
      rw [hQ] at LC LF W16 W18 WOK
      rw [hqe] at LC LF W16 W18 WOK
      clear hQ hqe LV EP
      go_wp2_with fail
      refine LC.out.mono ?_
      rintro z w5 ⟨rfl, nn, rfl⟩
      have S5 := Lib.hid (S.out.drewN nn)
      obtain ⟨W5, hW5⟩ : ∃ W5, wr.drewN nn = W5 := ⟨_, rfl⟩
      rw [hW5] at S5 ⊢
      clear hW5 S SR LC
      have x0 := S5.out.box.cell 0; have x1 := S5.out.box.cell 1
      simp at x0 x1
      have fz : ∀ o, W5.frozen? ⟨w.heap.size, o, none⟩ = false := fun o => S5.out.box.free o
      by_cases g1 : qe = 0
      · have t1 : (qe != 0) = false := by simp [g1]
        by_cases g2 : 1048576 < Q
        · have t2 : decide (1048576 < Q) = true := by simp; omega
          have VV := Lib.hid (HV.out.symm.trans (W16.out (.inr g2)))
          clear g1 g2
          go_wp2
          have ⟨v1, v2, v3⟩ : E = 0 ∧ P = 0 ∧ er = 16 := by have := VV.out; simpa using this
          subst v1 v2 v3
          exact bodyPost_ret (v := .tuple #[.agg #[.int .i64 0, .int .i64 0], .int .i64 16]) (by simp [results, Try.results25, go_sem, x0, x1]) rfl ⟨rfl, (S5.out.bel.setCell (Nat.le_refl _) _).setCell (Nat.le_refl _) _⟩
        · have t2 : decide (1048576 < Q) = false := by simp; omega
          have NO := Lib.hid (show ¬ (qe ≠ 0 ∨ 1048576 < Q) from fun h => by rcases h with h | h; exact h g1; exact g2 h)
          have ⟨D, q0⟩ := LF.out g1
          have DV := Lib.hid D
          clear D g1
          clear g2
          have L8 := Lib.hid l8
          go_wp2
          clear t1 t2 x0 x1 fz
          go_loopw [9, 47] (fun u v wr => ∃ j : Nat, v = .int .i64 j ∧ j ≤ i ∧ u = .int .i64 (useV ps Q j) ∧ WgS w wr a i cap ps gp i) (fun _ v _ => i - (intOf v).toNat)
          case atStart => exact ⟨0, rfl, by omega, rfl, S5.out⟩
          case round =>
            obtain ⟨j, rfl, j1, rfl, hW⟩ := hrel
            have S := Lib.hid hW
            clear hW
            by_cases go : j < i
            · have b1 : decide (j < i) = true := by simp; omega
              have b2 : decide ((j : Int) < (i : Int)) = true := by simp; omega
              have i0 : 0 ≤ (j : Int) := by omega
              have i2 : (j : Int) < (i : Int) := by omega
              have ⟨u1, u2⟩ := UB.out Q (by omega) j (by rw [LN.out]; omega)
              have ⟨u3, u4, u5, u6⟩ := UT.out Q (by omega) j (by rw [LN.out]; exact go)
              have SU := Lib.hid (US.out Q j)
              have P0 := Lib.hid (MayP.at_ HM.out.each (i := j) (by rw [LN.out]; exact go))
              obtain ⟨ba, oa, rfl, hx, hy⟩ := S.out.parts.cell go
              obtain ⟨E1, hE⟩ : ∃ E, (ps.getD j (0, 0)).1 = E := ⟨_, rfl⟩
              obtain ⟨P1, hP⟩ : ∃ P, (ps.getD j (0, 0)).2 = P := ⟨_, rfl⟩
              rw [hE] at hx
              rw [hP] at hy
              have e1 : eP ps j = E1 := hE
              have e2 : pP ps j = P1 := hP
              rw [e1, e2] at u5 u6 SU P0
              rw [e2] at u3 u4
              have p0 : 1 ≤ P1 := by have m1 := P0.out.1; have m2 := P0.out.2.1; omega
              have d1 : ¬ P1 = 0 := by omega
              have d2 : Q.tdiv P1 = Q / P1 := Int.tdiv_eq_ediv_of_nonneg (by omega)
              obtain ⟨D, hD⟩ : ∃ D, Q / P1 = D := ⟨_, rfl⟩
              rw [hD] at u3 u4 u5 u6 SU d2
              obtain ⟨N, hN⟩ : ∃ N, E1 * D = N := ⟨_, rfl⟩
              rw [hN] at u5 u6 SU
              obtain ⟨U, hU⟩ : ∃ U, useV ps Q j = U := ⟨_, rfl⟩
              rw [hU] at u1 u2 SU ⊢
              have u7 : U ≤ 8388608 := by
                have h1 : (j : Int) * Q ≤ 8 * Q := Int.mul_le_mul_of_nonneg_right (by omega) (by omega)
                have h2 := NO.out
                have h3 : Q ≤ 1048576 := by
                  rcases Int.lt_or_le 1048576 Q with q | q
                  · exact absurd (Or.inr q) h2
                  · exact q
                omega
              have h3 : Q ≤ 1048576 := by
                have h2 := NO.out
                rcases Int.lt_or_le 1048576 Q with q | q
                · exact absurd (Or.inr q) h2
                · exact q
              have w1 : IntKind.i64.wrap D = D := IntWalk.i64_in _ (by omega)
              have w2 : IntKind.i64.wrap (E1 * D) = N := by rw [hN]; exact IntWalk.i64_in _ (by omega)
              have w3 : IntKind.i64.wrap (U + N) = U + N := IntWalk.i64_in _ (by omega)
              have WW := Lib.hid w1; have WN := Lib.hid w2; have WU := Lib.hid w3; have DD := Lib.hid d2
              clear hE hP e1 e2 hD hN hU w1 w2 w3 d2 u2
              obtain ⟨W6, hW6⟩ : ∃ W6, wr.alloc (.cells #[.int .i64 E1, .int .i64 P1] 62) = W6 := ⟨_, rfl⟩
              have X6 := Lib.hid (show Blk W6 62 wr.heap.size #[.int .i64 E1, .int .i64 P1] by rw [← hW6]; exact Blk.new _ _ _)
              have S6 := Lib.hid (show WgS w W6 (some ⟨ba, oa, none⟩) i cap ps gp i by rw [← hW6]; exact S.out.below (wbox _ _))
              go_upto_region 16 with fail
              clear hW6
              have x0 := X6.out.cell 0
              have x1 := X6.out.cell 1
              simp at x0 x1
              have w1 := WW.out; have w2 := WN.out; have w3 := WU.out; have d2 := DD.out
              go_quiet (fail)
              all_goals
                clear w1 w2 w3 d2
                go_wp2
                go_roundw
                case rel => exact ⟨j + 1, by go_num, by omega, by rw [SU.out], S6.out.drewN _⟩
                case measure => simp [intOf]; omega
            · have b1 : decide (j < i) = false := by simp; omega
              have b2 : decide ((j : Int) < (i : Int)) = false := by simp; omega
              obtain rfl : j = i := by omega
              have EJ := Lib.hid (show useV ps Q j = useV ps Q ps.length by rw [LN.out])
              have UB2 := UB.out Q (by omega) j (by rw [LN.out]; omega)
              rw [EJ.out] at UB2 ⊢
              obtain ⟨U, hU⟩ : ∃ U, useV ps Q ps.length = U := ⟨_, rfl⟩
              rw [hU] at W18 WOK UB2 ⊢
              clear hU EJ
              obtain ⟨u1, u2⟩ := UB2
              have h3 : Q ≤ 1048576 := by
                have h2 := NO.out
                rcases Int.lt_or_le 1048576 Q with q | q
                · exact absurd (Or.inr q) h2
                · exact q
              have u7 : U ≤ 8388608 := by
                have h1 : (j : Int) * Q ≤ 8 * Q := Int.mul_le_mul_of_nonneg_right (by have := L8.out; omega) (by omega)
                omega
              clear u2
              have x0 := S.out.box.cell 0; have x1 := S.out.box.cell 1
              simp at x0 x1
              have fz : ∀ o, wr.frozen? ⟨w.heap.size, o, none⟩ = false := fun o => S.out.box.free o
              by_cases g3 : Q < U
              · have t3 : decide (Q < U) = true := by simp; omega
                have VV := Lib.hid (HV.out.symm.trans (W18.out NO.out g3))
                clear g3
                go_wp2
                have ⟨v1, v2, v3⟩ : E = 0 ∧ P = 0 ∧ er = 18 := by have := VV.out; simpa using this
                subst v1 v2 v3
                exact bodyPost_ret (v := .tuple #[.agg #[.int .i64 0, .int .i64 0], .int .i64 18]) (by simp [results, Try.results25, go_sem, x0, x1]) rfl ⟨rfl, (S.out.bel.setCell (Nat.le_refl _) _).setCell (Nat.le_refl _) _⟩
              · have t3 : decide (Q < U) = false := by simp; omega
                have VV := Lib.hid (HV.out.symm.trans (WOK.out NO.out (by omega)))
                clear g3
                obtain ⟨Ls, hL⟩ : ∃ Ls, leastV ps = Ls := ⟨_, rfl⟩
                have LL := Lib.hid hL
                have L1 : 1 ≤ Ls := by
                  obtain ⟨k, hk, ek⟩ := lst_is ps (ps.length - 1)
                  have m := MayP.at_ HM.out.each (i := k) (by have := HM.out.some_; omega)
                  have m1 := m.1; have m2 := m.2.1
                  have e : Ls = pP ps k := by rw [← hL]; exact ek
                  omega
                rw [hL] at VV
                clear hL
                have EP := Lib.hid (show perV ps j j = ps.map Prod.snd by rw [← perV_all, LN.out])
                have RW := Lib.hid (row_at S.out.row)
                go_wp2_with fail
                refine (smin_any gp j j (perV ps j j) ps wr RW.out (by omega) (fun k hk => by rw [EP.out]; exact perV_at (by rw [LN.out]; exact hk)) Ls (by rw [← LL.out]; unfold leastV; rw [LN.out])).mono ?_
                rintro z w6 ⟨rfl, nn, rfl⟩
                have S6 := Lib.hid (S.out.drewN nn)
                obtain ⟨W6, hW6⟩ : ∃ W6, wr.drewN nn = W6 := ⟨_, rfl⟩
                rw [hW6] at S6 ⊢
                clear hW6 S x0 x1 fz RW
                have x0 := S6.out.box.cell 0; have x1 := S6.out.box.cell 1
                simp at x0 x1
                have fz : ∀ o, W6.frozen? ⟨w.heap.size, o, none⟩ = false := fun o => S6.out.box.free o
                have d1 : ¬ Ls = 0 := by omega
                have d2 : Q.tdiv Ls = Q / Ls := Int.tdiv_eq_ediv_of_nonneg (by omega)
                have d3 : 0 ≤ Q / Ls := Int.ediv_nonneg (by omega) (by omega)
                have d4 := Int.ediv_le_self Ls (show 0 ≤ Q by omega)
                obtain ⟨D, hD⟩ : ∃ D, Q / Ls = D := ⟨_, rfl⟩
                rw [hD] at d2 d3 d4 VV
                clear hD
                go_wp2
                have ⟨v1, v2, v3⟩ : E = min (U + D) Q ∧ P = Q ∧ er = 0 := by have := VV.out; simpa using this
                subst v1 v2 v3

                exact bodyPost_ret (v := .tuple #[.agg #[.int .i64 (min (U + D) P), .int .i64 P], .int .i64 0]) (by simp [results, Try.results25, go_sem, x0, x1]) rfl ⟨rfl, (S6.out.bel.setCell (Nat.le_refl _) _).setCell (Nat.le_refl _) _⟩
      · have t1 : (qe != 0) = true := by simp [g1]
        have VV := Lib.hid (HV.out.symm.trans (W16.out (.inl g1)))
        clear g1
        go_wp2
        have ⟨v1, v2, v3⟩ : E = 0 ∧ P = 0 ∧ er = 16 := by have := VV.out; simpa using this
        subst v1 v2 v3
        exact bodyPost_ret (v := .tuple #[.agg #[.int .i64 0, .int .i64 0], .int .i64 16]) (by simp [results, Try.results25, go_sem, x0, x1]) rfl ⟨rfl, (S5.out.bel.setCell (Nat.le_refl _) _).setCell (Nat.le_refl _) _⟩
/-- all of it -/
theorem sweight_any (a : Option Addr) (len cap : Nat) (ps : List (Int × Int)) (w : World) (h : RowP w a len cap ps) (E P er : Int) (hv : wgtV ps = (E, P, er)) :
    Calls Try.prog 25 #[.slice a len cap] w fun z w' => z = .returned (.tuple #[.agg #[.int .i64 E, .int .i64 P], .int .i64 er]) ∧ Below w.heap.size w w' := by
  by_cases hM : MayP ps
  · exact sweight_yes a len cap ps w h hM E P er hv
  · rw [wgt_arg hM] at hv
    simp only [Prod.mk.injEq] at hv
    obtain ⟨rfl, rfl, rfl⟩ := hv
    exact sweight_no a len cap ps w h hM
end Go.Proofs.Ytnlgophgglgneaa

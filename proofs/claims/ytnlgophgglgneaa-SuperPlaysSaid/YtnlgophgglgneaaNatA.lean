/-
  What package nat's small functions give back: sign, limb, carrier and its closure, cut, Check, Of: contracts.
  What package nat's cut and Check give back: contracts.
  What package nat's Check, Of and Cmp give back: contracts.
  Rows of limbs that the program made itself and may write; what package nat's Of, divide, Clone and Div give back: contracts.
  What package nat's divide gives back: contracts.
  What Clone and package nat's Div give back: contracts.
  What package nat's Add gives back: contract.
  What package nat's Sub gives back: contract.
-/
import Derived.Test.YtnlgophgglgneaaNatP
import Derived.Lib.SliceRun
namespace Go.Proofs.Ytnlgophgglgneaa
open Go.RowKit

theorem sign_yes (w : World) : Calls Try.prog 135 #[.bool true] w fun e w' => e = .returned (.int .i64 (-1)) ∧ w = w' := by
  go_enter Try.func135, Try.ntmps135
  go_wp2
  go_ret
  exact ⟨rfl, rfl⟩
theorem sign_no (w : World) : Calls Try.prog 135 #[.bool false] w fun e w' => e = .returned (.int .i64 1) ∧ w = w' := by
  go_enter Try.func135, Try.ntmps135
  go_wp2
  go_ret
  exact ⟨rfl, rfl⟩

theorem limb_any (a : Option Addr) (la ca : Nat) (za : List Int) (i : Nat) (w : World) (ha : Row .u32 w a la ca za) :
    Calls Try.prog 116 #[.slice a la ca, .int .i64 i] w fun e w' => e = .returned (.int .u32 (za.getD i 0)) ∧ w = w' := by
  have HA := Lib.hid ha
  have LA := Lib.hid ha.len
  have ⟨c1, c2⟩ := ha.cap_le
  clear ha
  by_cases p : i < la
  · obtain ⟨ba, oa, rfl, hca⟩ := HA.out.cell p
    obtain ⟨x, hx⟩ : ∃ x, za.getD i 0 = x := ⟨_, rfl⟩
    rw [hx] at hca
    have HX := Lib.hid hx
    clear hx
    have bp : decide (i < la) = true := by simp; omega
    go_enter Try.func116, Try.ntmps116
    go_wp2
    go_ret
    exact ⟨ret_one HX.out.symm, rfl⟩
  · have HX := Lib.hid (getD_out (zs := za) (i := i) (by rw [LA.out]; omega))
    have bp : decide (i < la) = false := by simp; omega
    go_enter Try.func116, Try.ntmps116
    go_wp2
    go_ret
    exact ⟨ret_one HX.out.symm, rfl⟩

/-- the function value of a carrier whose carry lies in block b -/
def carryF (b : Nat) : Value := .func (.func 122) #[] #[.pointer (some ⟨b, 0, none⟩)]

theorem carrier_any (c : Int) (w : World) :
    Calls Try.prog 115 #[.int .u64 c] w fun e w' => e = .returned (.func (.func 122) #[] #[.pointer (some ⟨w.heap.size, 0, none⟩)]) ∧ w.alloc (.cells #[.int .u64 c] 92) = w' := by
  have hmf : ∀ (fn : Fn) (first cap : Array Value) (w : World), (Instr.makeFunc fn first cap).run Try.prog w = .ok (.func fn first cap) w := fun _ _ _ _ => rfl
  go_enter Try.func115, Try.ntmps115
  go_wp2
  go_ret
  exact ⟨rfl, rfl⟩

theorem carry_any (n c : Int) (b : Nat) (w : World) (h : w.heap[b]? = some (.cells #[.int .u64 c] 92 (0, 0))) (n0 : 0 ≤ n) (c0 : 0 ≤ c) (h1 : n + c ≤ 18446744073709551615) :
    Calls Try.prog 122 #[.int .u64 n, .pointer (some ⟨b, 0, none⟩)] w fun e w' => e = .returned (.int .u32 ((n + c) % 4294967296)) ∧ w.setCell ⟨b, 0, none⟩ (.int .u64 ((n + c) / 4294967296)) = w' := by
  have hc := cell_of_one h
  have hf := free_of_one h
  clear h
  go_enter Try.func122, Try.ntmps122
  go_wp2
  go_ret
  exact ⟨rfl, rfl⟩
end Go.Proofs.Ytnlgophgglgneaa
namespace Go.Proofs.Ytnlgophgglgneaa
open Go.RowKit

/-- the row's beginning, cut with three indices: as much, without noughts at the end -/
def Trims (w : World) (a : Option Addr) (len : Nat) (zs : List Int) (e : Ending) (w' : World) : Prop :=
  ∃ m, m ≤ len ∧ e = .returned (.slice a m m) ∧ Row .u32 w a m m (zs.take m) ∧ Is 4294967296 (zs.take m) (val 4294967296 zs) ∧ w = w'

theorem Row.trim {k : IntKind} {W : World} {a : Option Addr} {len cap m : Nat} {zs : List Int} (h : Row k W a len cap zs) (hm : m ≤ len) : Row k W a m m (zs.take m) := by
  have h1 := h.take hm
  have h2 := h.2.2.1
  have h3 := h.2.1
  refine ⟨h1.1, Nat.le_refl _, by omega, fun e => ?_, h1.2.2.2.2⟩
  have := h.2.2.2.1 e
  omega

theorem ncut_any (a : Option Addr) (len cap : Nat) (zs : List Int) (w : World) (h : Row .u32 w a len cap zs) (hd : Digs 4294967296 zs) :
    Calls Try.prog 100 #[.slice a len cap] w (Trims w a len zs) := by
  have H := Lib.hid h
  have HD := Lib.hid hd
  have HL := Lib.hid h.len
  have ⟨c1, c2⟩ := h.cap_le
  clear h hd
  go_enter Try.func100, Try.ntmps100
  go_wp2
  go_step3
  go_wp2
  go_step3
  go_wp2
  go_loop [3, 9] (fun u v => ∃ m i : Nat, m + i = len ∧ u = .int .i64 m ∧ v = .int .i64 i ∧ val 4294967296 (zs.take m) = val 4294967296 zs) (fun u _ => (intOf u).toNat)
  case atStart => exact ⟨len, 0, rfl, rfl, rfl, by rw [List.take_of_length_le (by rw [HL.out]; exact Nat.le_refl _)]⟩
  case round =>
    obtain ⟨m, i, hmi, rfl, rfl, hv⟩ := hrel
    have HV := Lib.hid hv
    clear hv
    have hm : m ≤ len := by omega
    cases m with
    | zero =>
      obtain rfl : len = i := by omega
      clear hmi
      go_wp2
      try rw [Exit.noGoto_ret]
      go_ret
      exact ⟨0, Nat.zero_le _, rfl, H.out.trim (Nat.zero_le _), ⟨HD.out.take 0, by simp [Top], HV.out⟩, rfl⟩
    | succ m =>
      obtain ⟨b, off, rfl, hc⟩ := H.out.cell (show m < len by omega)
      obtain ⟨z, hz⟩ : ∃ z, zs.getD m 0 = z := ⟨_, rfl⟩
      rw [hz] at hc
      have HZ := Lib.hid hz
      clear hz
      obtain rfl : len = m + 1 + i := by omega
      clear hmi
      have e1 : ((m + 1 + i : Nat) : Int) - 1 - (i : Int) = m := by omega
      by_cases g : z = 0
      · subst g
        go_wp2
        go_round
        case rel => exact ⟨m, i + 1, by omega, by go_num, by go_num, by rw [← HV.out, val_take_zero (by rw [HL.out]; omega) HZ.out]⟩
        case measure => simp [intOf]
      · have g' : (z == 0) = false := by simp [g]
        have g'' : (z != 0) = true := by simp [g]
        go_wp2
        try rw [Exit.noGoto_ret]
        go_ret
        exact ⟨m + 1, hm, rfl, H.out.trim hm, ⟨HD.out.take _, top_take (by rw [HL.out]; omega) (by rw [HZ.out]; exact g), HV.out⟩, rfl⟩
end Go.Proofs.Ytnlgophgglgneaa
namespace Go.Proofs.Ytnlgophgglgneaa
open Go.RowKit

theorem nCheck_any (a : Option Addr) (la ca : Nat) (za : List Int) (w : World) (r : Bool) (ha : Row .u32 w a la ca za) (hr : r = true ↔ Top za) :
    Calls Try.prog 111 #[.slice a la ca] w fun e w' => e = .returned (.bool r) ∧ w = w' := by
  have ⟨c1, c2⟩ := ha.cap_le
  cases la with
  | zero =>
    have E : r = true := hr.mpr (by have := ha.len; rw [List.length_eq_zero_iff.mp this]; simp [Top])
    subst E
    clear hr ha
    go_enter Try.func111, Try.ntmps111
    go_wp2
    go_ret
    exact ⟨rfl, rfl⟩
  | succ m =>
    obtain ⟨b, off, rfl, hc⟩ := ha.cell (show m < m + 1 by omega)
    have ht := top_of ha.len
    obtain ⟨z, hz⟩ : ∃ z, za.getD m 0 = z := ⟨_, rfl⟩
    rw [hz] at hc ht
    have n0 : (((m + 1 : Nat) : Int) == 0) = false := by simp; omega
    have n1 : ((m : Int) + 1 == 0) = false := by simp; omega
    by_cases g : z = 0
    · have E : r = false := by
        rcases r with _ | _
        · rfl
        · exact absurd g (ht.mp (hr.mp rfl))
      subst E
      subst g
      clear hr ha ht hz
      go_enter Try.func111, Try.ntmps111
      go_wp2
      go_ret
      exact ⟨rfl, rfl⟩
    · have E : r = true := hr.mpr (ht.mpr g)
      subst E
      have g1 : (z != 0) = true := by simp [g]
      clear hr ha ht hz g
      go_enter Try.func111, Try.ntmps111
      go_wp2
      go_ret
      exact ⟨rfl, rfl⟩


def sgn (b : Bool) : Int := if b then -1 else 1
theorem sign_any (b : Bool) (w : World) : Calls Try.prog 135 #[.bool b] w fun e w' => e = .returned (.int .i64 (sgn b)) ∧ w = w' := by
  cases b
  · exact sign_no w
  · exact sign_yes w

theorem cmp_len {B : Int} (hB : 1 < B) {za zb : List Int} {m n : Int} (ha : Is B za m) (hb : Is B zb n) (h : za.length ≠ zb.length) : cmpI m n = sgn (decide (za.length < zb.length)) := by
  rcases Nat.lt_or_ge za.length zb.length with g | g
  · rw [cmpI_lt (len_lt hB ha hb g), decide_eq_true g]; rfl
  · rw [cmpI_gt (len_lt hB hb ha (by omega)), decide_eq_false (by omega)]; rfl

theorem nCmp_any (a : Option Addr) (la ca : Nat) (za : List Int) (b : Option Addr) (lb cb : Nat) (zb : List Int) (w : World)
    (ha : Row .u32 w a la ca za) (da : Digs 4294967296 za) (hb : Row .u32 w b lb cb zb) (db : Digs 4294967296 zb) :
    Calls Try.prog 130 #[.slice a la ca, .slice b lb cb] w fun e w' => e = .returned (.int .i64 (cmpI (val 4294967296 za) (val 4294967296 zb))) ∧ ∃ k, w' = w.drewN k := by
  have ⟨c1, c2⟩ := ha.cap_le
  have ⟨c3, c4⟩ := hb.cap_le
  have HA := Lib.hid ha
  have HB := Lib.hid hb
  have DA := Lib.hid da
  have DB := Lib.hid db
  clear ha hb da db
  go_enter Try.func130, Try.ntmps130
  go_wp2_with (first
    | (go_at_call 100; ((with_reducible refine (ncut_any a la ca za _ HA.out DA.out).mono ?_)); rintro e w' ⟨m1, l1, rfl, hr1, hi1, rfl⟩; have HR1 := Lib.hid hr1; have HI1 := Lib.hid hi1; clear hr1 hi1)
    | (go_at_call 100; ((with_reducible refine (ncut_any b lb cb zb _ HB.out DB.out).mono ?_)); rintro e w' ⟨m2, l2, rfl, hr2, hi2, rfl⟩; have HR2 := Lib.hid hr2; have HI2 := Lib.hid hi2; clear hr2 hi2)
    | (go_at_call 135; ((with_reducible refine (sign_any _ _).mono ?_)); rintro e w' ⟨rfl, rfl⟩))
  · have hne : ((m1 : Int) != (m2 : Int)) = true := by assumption
    have hne' : m1 ≠ m2 := by intro e; subst e; simp at hne
    have E := Lib.hid (cmp_len (by omega) HI1.out HI2.out (by rw [HR1.out.len, HR2.out.len]; exact hne'))
    rw [HR1.out.len, HR2.out.len] at E
    go_ret
    exact ⟨ret_one E.out.symm, 0, rfl⟩
  · have heq : ((m1 : Int) != (m2 : Int)) = false := by assumption
    rw [heq]
    obtain rfl : m1 = m2 := by have := heq; simp at this; omega
    clear heq
    have L1 := Lib.hid HR1.out.len
    have L2 := Lib.hid HR2.out.len
    go_loopw [24] (fun v wr => ∃ (j i t : Nat), v = .int .i64 i ∧ j + i = m1 ∧ val 4294967296 ((za.take m1).drop j) = val 4294967296 ((zb.take m1).drop j) ∧ wr = w.drewN t) (fun v _ => m1 - (intOf v).toNat)
    case atStart => exact ⟨m1, 0, 0, rfl, rfl, by rw [List.drop_eq_nil_of_le (by rw [L1.out]; omega), List.drop_eq_nil_of_le (by rw [L2.out]; omega)], rfl⟩
    case round =>
      obtain ⟨j, i, t, rfl, hji, hval, rfl⟩ := hrel
      have HV := Lib.hid hval
      clear hval
      cases j with
      | zero =>
        have e := Lib.hid (cmpI_eq (show val 4294967296 za = val 4294967296 zb by rw [← HI1.out.2.2, ← HI2.out.2.2]; exact HV.out))
        have b1 : decide (i < m1) = false := by simp; omega
        go_wp2
        go_ret
        exact ⟨ret_one e.out.symm, _, rfl⟩
      | succ j =>
        obtain ⟨ba, oa, rfl, hca⟩ := HR1.out.cell (show j < m1 by omega)
        obtain ⟨bb, ob, rfl, hcb⟩ := HR2.out.cell (show j < m1 by omega)
        obtain ⟨x, hx⟩ : ∃ x, (za.take m1).getD j 0 = x := ⟨_, rfl⟩
        obtain ⟨y, hy⟩ : ∃ y, (zb.take m1).getD j 0 = y := ⟨_, rfl⟩
        have b1 : decide (i < m1) = true := by simp; omega
        have j1 : (j : Int) < (m1 : Int) := by omega
        have j2 : 0 ≤ (j : Int) := by omega
        have va := HI1.out.2.2
        have vb := HI2.out.2.2
        obtain rfl : m1 = j + 1 + i := by omega
        clear hji
        have E0 := Lib.hid (show (j : Int) + 1 + (i : Int) - 1 - (i : Int) = j by omega)
        rcases Int.lt_trichotomy x y with g | g | g
        · have e := Lib.hid (cmpI_lt (show val 4294967296 za < val 4294967296 zb by rw [← va, ← vb]; exact dig_lt (by omega) HI1.out.1 HI2.out.1 (by rw [L1.out]; omega) (by rw [L2.out]; omega) HV.out (by rw [hx, hy]; exact g)))
          rw [hx] at hca
          rw [hy] at hcb
          clear hx hy va vb
          have bx : (x != y) = true := by simp; omega
          have bl : decide (x < y) = true := by simp; omega
          go_wp2
          rw [E0.out]
          go_quiet (fail)
          go_wp2
          go_quiet ((go_at_call 135; exact quiet_add_left (sign_any _ _)))
          go_wp2
          go_ret
          refine ⟨ret_one e.out.symm, ?_⟩
          simp only [World.drewN_drewN]
          exact ⟨_, rfl⟩
        · subst g
          have e := Lib.hid (show val 4294967296 ((za.take (j + 1 + i)).drop j) = val 4294967296 ((zb.take (j + 1 + i)).drop j) by rw [val_drop, val_drop 4294967296 (zb.take (j + 1 + i)), hx, hy, HV.out])
          rw [hx] at hca
          rw [hy] at hcb
          clear hx hy va vb
          have bx : (x != x) = false := by simp
          go_wp2
          rw [E0.out]
          go_quiet (fail)
          go_wp2
          go_roundw
          case rel => exact ⟨j, i + 1, _, by go_num, by omega, e.out, rfl⟩
          case measure => simp [intOf] <;> omega
        · have e := Lib.hid (cmpI_gt (show val 4294967296 zb < val 4294967296 za by rw [← va, ← vb]; exact dig_lt (by omega) HI2.out.1 HI1.out.1 (by rw [L2.out]; omega) (by rw [L1.out]; omega) HV.out.symm (by rw [hx, hy]; exact g)))
          rw [hx] at hca
          rw [hy] at hcb
          clear hx hy va vb
          have bx : (x != y) = true := by simp; omega
          have bl : decide (x < y) = false := by simp; omega
          go_wp2
          rw [E0.out]
          go_quiet (fail)
          go_wp2
          go_quiet ((go_at_call 135; exact quiet_add_left (sign_any _ _)))
          go_wp2
          go_ret
          refine ⟨ret_one e.out.symm, ?_⟩
          simp only [World.drewN_drewN]
          exact ⟨_, rfl⟩
end Go.Proofs.Ytnlgophgglgneaa
namespace Go.Proofs.Ytnlgophgglgneaa
open Go.RowKit

/-- block g is a row of limbs that may be written; it begins with zs -/
def Mine (W : World) (g : Nat) (zs : List Int) : Prop :=
  ∃ cur, W.heap[g]? = some (.cells cur 107 (0, 0)) ∧ cur.toList.take zs.length = zs.map (Value.int .u32)

theorem Mine.lt {W : World} {g : Nat} {zs : List Int} (h : Mine W g zs) : g < W.heap.size := by
  obtain ⟨cur, h1, _⟩ := h; exact lt_of_block h1
theorem Mine.cell {W : World} {g : Nat} {zs : List Int} (h : Mine W g zs) {i : Nat} (hi : i < zs.length) : W.cell? ⟨g, i, none⟩ = some (.int .u32 (zs.getD i 0)) := by
  obtain ⟨cur, h1, h2⟩ := h
  rw [cell_of_row W g i cur 107 (0, 0) h1, ← Array.getElem?_toList, ← List.getElem?_take_of_lt (l := cur.toList) hi, h2, List.getElem?_map, List.getElem?_eq_getElem hi, List.getD_eq_getElem?_getD, List.getElem?_eq_getElem hi]
  rfl
theorem Mine.free {W : World} {g : Nat} {zs : List Int} (h : Mine W g zs) (i : Nat) : W.frozen? ⟨g, i, none⟩ = false := by
  obtain ⟨cur, h1, _⟩ := h
  exact frozen_of_row W g i cur 107 h1
theorem Mine.set {W : World} {g : Nat} {zs : List Int} (h : Mine W g zs) (i : Nat) (q : Int) : Mine (W.setCell ⟨g, i, none⟩ (.int .u32 q)) g (zs.set i q) := by
  obtain ⟨cur, h1, h2⟩ := h
  refine ⟨_, heap_setCell_same W g i cur 107 _ h1, ?_⟩
  rw [List.length_set, Array.toList_setIfInBounds, List.take_set, h2, List.map_set]
theorem Mine.other {W : World} {g : Nat} {zs : List Int} (h : Mine W g zs) {a : Addr} (ha : g ≠ a.block) (u : Value) : Mine (W.setCell a u) g zs := by
  obtain ⟨cur, h1, h2⟩ := h
  exact ⟨cur, by rw [Below.heap_setCell _ _ _ _ ha]; exact h1, h2⟩
theorem Mine.grown {W W' : World} {g : Nat} {zs : List Int} {row : Option Nat} (h : Mine W g zs) (hg : W.grownBy W' row) (hne : some g ≠ row) : Mine W' g zs := by
  have := h.lt
  obtain ⟨cur, h1, h2⟩ := h
  exact ⟨cur, by rw [hg.block g this hne]; exact h1, h2⟩
theorem Mine.below {W W' : World} {g B : Nat} {zs : List Int} (h : Mine W g zs) (hb : Below B W W') (hg : g < B) : Mine W' g zs := by
  obtain ⟨cur, h1, h2⟩ := h
  exact ⟨cur, by rw [hb.block g hg]; exact h1, h2⟩
theorem Mine.alloc {W : World} {g : Nat} {zs : List Int} (h : Mine W g zs) (o : Obj) : Mine (W.alloc o) g zs := by
  have := h.lt
  obtain ⟨cur, h1, h2⟩ := h
  exact ⟨cur, by rw [Below.heap_alloc _ _ _ this]; exact h1, h2⟩
theorem Mine.drew {W : World} {g : Nat} {zs : List Int} (h : Mine W g zs) : Mine W.drew g zs := h
theorem Mine.take {W : World} {g : Nat} {zs : List Int} (h : Mine W g zs) {m : Nat} (hm : m ≤ zs.length) : Mine W g (zs.take m) := by
  obtain ⟨cur, h1, h2⟩ := h
  refine ⟨cur, h1, ?_⟩
  rw [List.length_take, Nat.min_eq_left hm, List.map_take, ← h2, List.take_take, Nat.min_eq_left hm]
theorem Mine.row {W : World} {g : Nat} {zs : List Int} (h : Mine W g zs) {cap : Nat} (h1 : zs.length ≤ cap) (h2 : cap ≤ 9223372036854775807) : Row .u32 W (some ⟨g, 0, none⟩) zs.length cap zs :=
  ⟨rfl, h1, h2, (fun e => by cases e), fun i hi => ⟨g, 0, rfl, by rw [Nat.zero_add]; exact h.cell hi⟩⟩
theorem mine_of_owns {W : World} {base g n cap : Nat} {zs : List Int} (h : W.ownsRow base 107 1 (.slice (some ⟨g, 0, none⟩) n cap) n (zs.map (Value.int .u32))) : Mine W g zs := by
  have hl : zs.length = n := by have := h.1; simpa using this
  rcases h.2 with ⟨h', _⟩ | ⟨g', cap', cur, h', _, hg, _, _, _, htake⟩
  · simp at h'
  · simp only [Value.slice.injEq, Option.some.injEq, Addr.mk.injEq, and_true, true_and] at h'
    obtain ⟨rfl, rfl⟩ := h'
    exact ⟨cur, hg, by rw [hl]; simpa using htake⟩

theorem digs_two {n : Int} (n0 : 0 ≤ n) (n1 : n ≤ 18446744073709551615) : Digs 4294967296 [n % 4294967296, n / 4294967296] := fun z hz => by
  simp at hz
  rcases hz with rfl | rfl <;> omega

theorem nOf_any (n : Int) (w : World) (n0 : 0 ≤ n) (n1 : n ≤ 18446744073709551615) :
    Calls Try.prog 79 #[.int .u64 n] w (Gives .u32 w fun r => Is 4294967296 r n) := by
  obtain ⟨a5, c5, hv5, hrow5, _⟩ := row_of_owns (k := .u32) (zs := [n % 4294967296, n / 4294967296]) (World.ownsRow_lit (base := w.heap.size) (e := 107) (size := 1) w #[.int .u32 (n % 4294967296), .int .u32 (n / 4294967296)] 2 (Nat.le_refl _) (by unfold maxLen; omega) rfl)
  simp only [Value.slice.injEq] at hv5
  obtain ⟨rfl, _, rfl⟩ := hv5
  have HR := Lib.hid hrow5
  clear hrow5
  have HV := Lib.hid (show val 4294967296 [n % 4294967296, n / 4294967296] = n by simp [val]; omega)
  go_enter Try.func79, Try.ntmps79
  go_wp2_with (go_at_call 100; refine (ncut_any _ _ _ [n % 4294967296, n / 4294967296] _ HR.out (digs_two n0 n1)).mono ?_; rintro e w' ⟨m1, l1, rfl, hr1, hi1, rfl⟩; rw [HV.out] at hi1; have HR1 := Lib.hid hr1; have HI1 := Lib.hid hi1; clear hr1 hi1)
  go_ret
  exact ⟨_, _, _, _, rfl, HR1.out, HI1.out, (Below.refl _ _).alloc (Nat.le_refl _) _, (fun ad h => by cases h; exact Nat.le_refl _)⟩
end Go.Proofs.Ytnlgophgglgneaa
namespace Go.Proofs.Ytnlgophgglgneaa
open Go.RowKit

/-- the row at g is divided where it lies; what is left is told -/
def Divides (w : World) (g : Nat) (zs : List Int) (d : Int) (e : Ending) (w' : World) : Prop :=
  e = .returned (.int .u32 (val 4294967296 zs % d)) ∧ ∃ qs, qs.length = zs.length ∧ Digs 4294967296 qs ∧ val 4294967296 qs = val 4294967296 zs / d ∧ Mine w' g qs ∧ w.grownBy w' (some g)

theorem or_limb {r x : Int} (r0 : 0 ≤ r) (r1 : r < 4294967296) (x0 : 0 ≤ x) (x1 : x < 4294967296) : bits .or .u64 (r * 4294967296) x = r * 4294967296 + x := by
  obtain ⟨a, rfl⟩ := Int.eq_ofNat_of_zero_le r0
  obtain ⟨b, rfl⟩ := Int.eq_ofNat_of_zero_le x0
  have e := u64_or_nat (a * 4294967296) b (by omega) (by omega)
  have e2 : a * 4294967296 ||| b = a * 4294967296 + b := by
    have := Nat.shiftLeft_add_eq_or_of_lt (i := 32) (b := b) (by omega) a
    rw [Nat.shiftLeft_eq] at this
    exact this.symm
  rw [e2] at e
  have c : (a : Int) * 4294967296 = ((a * 4294967296 : Nat) : Int) := by omega
  rw [c, e]
  omega
theorem limb_quo {r x d : Int} (hd : 0 < d) (r0 : 0 ≤ r) (r1 : r < d) (x0 : 0 ≤ x) (x1 : x < 4294967296) : 0 ≤ (r * 4294967296 + x) / d ∧ (r * 4294967296 + x) / d < 4294967296 := by
  refine ⟨Int.ediv_nonneg (by omega) (by omega), Int.ediv_lt_of_lt_mul hd ?_⟩
  omega
theorem limb_step {V W d r x n q r' : Int} (hn : r * 4294967296 + x = n) (h : V * d + r = W) (hq : n = q * d + r') : (q + 4294967296 * V) * d + r' = x + 4294967296 * W := by
  rw [Int.add_mul, Int.mul_assoc, ← h]
  omega
theorem digs_setB {B : Int} {ds : List Int} {i : Nat} {q : Int} (h : Digs B ds) (hq : 0 ≤ q ∧ q < B) : Digs B (ds.set i q) := fun z hz => by
  rcases List.mem_or_eq_of_mem_set hz with h' | rfl
  · exact h z h'
  · exact hq
theorem grown_set {w wr : World} {g : Nat} (h : w.grownBy wr (some g)) (j : Nat) (u : Value) : w.grownBy (wr.setCell ⟨g, j, none⟩ u) (some g) :=
  ⟨h.os, h.tape, h.output, by simpa [World.setCell] using h.size, fun k hk hne => (Below.heap_setCell wr ⟨g, j, none⟩ u k (fun e => hne (by rw [e]))).trans (h.block k hk hne)⟩

theorem divide_mine (g len cap : Nat) (zs : List Int) (d : Int) (w : World) (hm : Mine w g zs) (hl : zs.length = len) (hlc : len ≤ cap) (hc : cap ≤ 9223372036854775807)
    (hd : Digs 4294967296 zs) (d0 : 0 < d) (d1 : d < 4294967296) :
    Calls Try.prog 128 #[.slice (some ⟨g, 0, none⟩) len cap, .int .u32 d] w (Divides w g zs d) := by
  have HM := Lib.hid hm
  have HL := Lib.hid hl
  have HD := Lib.hid hd
  clear hm hl hd
  go_enter Try.func128, Try.ntmps128
  go_wp2
  go_loopw [5, 11] (fun u v wr => ∃ (r : Int) (j i : Nat) (ds : List Int), u = .int .u64 r ∧ v = .int .i64 i ∧ j + i = len ∧ 0 ≤ r ∧ r < d ∧ ds.length = len ∧ Digs 4294967296 ds ∧ ds.take j = zs.take j ∧ val 4294967296 (ds.drop j) * d + r = val 4294967296 (zs.drop j) ∧ Mine wr g ds ∧ w.grownBy wr (some g)) (fun _ v _ => len - (intOf v).toNat)
  case atStart =>
    refine ⟨0, len, 0, zs, rfl, rfl, rfl, by omega, d0, HL.out, HD.out, rfl, ?_, HM.out, ⟨rfl, rfl, rfl, Nat.le_refl _, fun _ _ _ => rfl⟩⟩
    rw [List.drop_eq_nil_of_le (by rw [HL.out]; omega)]; simp [val]
  case round =>
    obtain ⟨r, j, i, ds, rfl, rfl, hji, r0, r1, hdl, hdg, htk, hval, hmi, hgr⟩ := hrel
    have HDl := Lib.hid hdl
    have HDg := Lib.hid hdg
    have HT := Lib.hid htk
    have HVal := Lib.hid hval
    have HMi := Lib.hid hmi
    have HG := Lib.hid hgr
    clear hdl hdg htk hval hmi hgr
    cases j with
    | zero =>
      have b1 : decide (i < len) = false := by simp; omega
      have E := Lib.hid (show val 4294967296 zs / d = val 4294967296 ds ∧ val 4294967296 zs % d = r by
        have := HVal.out
        rw [List.drop_zero, List.drop_zero] at this
        exact (Int.ediv_emod_unique d0).mpr ⟨by rw [← this, Int.mul_comm]; omega, r0, r1⟩)
      go_wp2
      go_ret
      exact ⟨ret_one E.out.2.symm, ds, by rw [HDl.out, HL.out], HDg.out, E.out.1.symm, HMi.out, HG.out⟩
    | succ j =>
      have hc1 := HMi.out.cell (i := j) (by rw [HDl.out]; omega)
      have hfz := HMi.out.free j
      obtain ⟨x, hx⟩ : ∃ x, ds.getD j 0 = x := ⟨_, rfl⟩
      obtain ⟨x1, x2⟩ := HDg.out.getD (by omega) j
      rw [hx] at hc1 x1 x2
      have HX := Lib.hid hx
      clear hx
      obtain rfl : len = j + 1 + i := by omega
      clear hji
      have HX2 := Lib.hid (show zs.getD j 0 = x by
        have h1 : (ds.take (j + 1)).getD j 0 = (zs.take (j + 1)).getD j 0 := by rw [HT.out]
        rw [List.getD_eq_getElem?_getD, List.getElem?_take_of_lt (by omega), ← List.getD_eq_getElem?_getD, HX.out, List.getD_eq_getElem?_getD, List.getElem?_take_of_lt (by omega), ← List.getD_eq_getElem?_getD] at h1
        exact h1.symm)
      obtain ⟨N, hN⟩ : ∃ N, r * 4294967296 + x = N := ⟨_, rfl⟩
      have hor : bits .or .u64 (r * 4294967296) x = N := by rw [← hN]; exact or_limb r0 (by omega) x1 x2
      have n0 : 0 ≤ N := by omega
      have n1 : N ≤ 18446744073709551615 := by omega
      have ⟨q0, q1⟩ := limb_quo d0 r0 r1 x1 x2
      rw [hN] at q0 q1
      have m0 : 0 ≤ N % d := Int.emod_nonneg _ (by omega)
      have m1 : N % d < d := Int.emod_lt_of_pos _ d0
      have HN := Lib.hid hN
      clear hN
      have HNx := Lib.hid (show val 4294967296 ((ds.set j (N / d)).drop j) * d + N % d = val 4294967296 (zs.drop j) by
        rw [drop_set (by rw [HDl.out]; omega), val, val_drop 4294967296 zs j, HX2.out]
        exact limb_step HN.out HVal.out (quo_rem _ _))
      have HTx := Lib.hid (show (ds.set j (N / d)).take j = zs.take j by
        rw [List.take_set_of_le (Nat.le_refl _)]
        have := congrArg (List.take j) HT.out
        rwa [List.take_take, List.take_take, Nat.min_eq_left (by omega)] at this)
      go_wp2
      go_roundw
      case rel =>
        refine ⟨_, j, i + 1, ds.set j (N / d), rfl, by go_num, by omega, m0, m1, by rw [List.length_set]; exact HDl.out, digs_setB HDg.out ⟨q0, q1⟩, HTx.out, HNx.out, HMi.out.set j _, ?_⟩
        exact grown_set HG.out j _
      case measure => simp [intOf]; omega
end Go.Proofs.Ytnlgophgglgneaa
namespace Go.Proofs.Ytnlgophgglgneaa
open Go.RowKit

/-- nothing, or a row of one's own that begins with zs -/
def Whose (W : World) (base : Nat) (a : Option Addr) (len cap : Nat) (zs : List Int) : Prop :=
  zs.length = len ∧ len ≤ cap ∧ cap ≤ 9223372036854775807 ∧ ((a = none ∧ cap = 0) ∨ ∃ g, a = some ⟨g, 0, none⟩ ∧ base ≤ g ∧ Mine W g zs)
theorem Whose.row {W : World} {base : Nat} {a : Option Addr} {len cap : Nat} {zs : List Int} (h : Whose W base a len cap zs) : Row .u32 W a len cap zs := by
  obtain ⟨rfl, h1, h2, ⟨rfl, rfl⟩ | ⟨g, rfl, _, h3⟩⟩ := h
  · refine ⟨rfl, h1, h2, (fun _ => rfl), (fun i hi => by omega)⟩
  · exact h3.row h1 h2
theorem Whose.fresh {W : World} {base : Nat} {a : Option Addr} {len cap : Nat} {zs : List Int} (h : Whose W base a len cap zs) : Fresh base a := by
  obtain ⟨_, _, _, ⟨rfl, _⟩ | ⟨g, rfl, h3, _⟩⟩ := h
  · exact Fresh.none
  · intro ad e; cases e; exact h3
def Clones (w : World) (len : Nat) (zs : List Int) (e : Ending) (w' : World) : Prop :=
  ∃ a cap, e = .returned (.slice a len cap) ∧ Whose w' w.heap.size a len cap zs ∧ Below w.heap.size w w'

theorem clone_any (a : Option Addr) (la ca : Nat) (za : List Int) (w : World) (ha : Row .u32 w a la ca za) (la6 : la ≤ 1000000) :
    Calls Try.prog 127 #[.slice a la ca] w (Clones w la za) := by
  obtain ⟨i0, hi, hz0, hz1, hz2⟩ := info_parts Try.infoU32
  have HA := Lib.hid ha
  have ⟨c1, c2⟩ := ha.cap_le
  clear ha
  have qT : ∀ (w : World) (a : Option Addr) (n c n' c' : Nat), (binOp .eql 56 (.slice a n c) (.slice none n' c')).run Try.prog w = .ok (.bool a.isNone) w := fun w a n c n' c' => Lib.run_eql_slice_nil w _ _ a n c n' c' Try.underlying56
  rcases a with _ | ad
  · obtain ⟨rfl, rfl, rfl⟩ := HA.out.none_cap
    go_enter Try.func127, Try.ntmps127
    go_wp2
    go_ret
    exact ⟨none, 0, rfl, ⟨rfl, by omega, by omega, .inl ⟨rfl, rfl⟩⟩, Below.refl _ _⟩
  · go_enter Try.func127, Try.ntmps127
    go_wp2_with (at_builtin; refine wpList_append_own _ rfl _ _ 56 rfl w.heap.size 107 i0 (.int .u32 0) 1 4 Try.underlying56 hi hz0 hz1 hz2 rfl (by decide) (.slice (some ⟨w.heap.size, 0, none⟩) 0 0) 0 [] rfl (World.ownsRow_lit (e := 107) (size := 1) w #[] 0 (Nat.le_refl _) (by unfold maxLen; omega) rfl) ad la ca (za.map (Value.int .u32)) rfl (by simp [HA.out.len]) (HA.out.below ((Below.refl _ _).alloc (Nat.le_refl _) _)).news (ints_one _ _) (by unfold maxLen; omega) (by omega) (by simp) ?_; intro v2 w2 hown2 hgrow2 hnil2; have HO2 := Lib.hid hown2; have HG2 := Lib.hid hgrow2; have HN2 := Lib.hid hnil2; clear hown2 hgrow2 hnil2)
    go_ret
    have ho := HO2.out
    rw [Nat.zero_add, List.nil_append] at ho
    have hb : Below w.heap.size w w2 := ((Below.refl w.heap.size w).alloc (Nat.le_refl _) _).grown HG2.out (by simp) (fun g hg => Nat.le_of_eq (by simpa [Value.ownBlock] using hg))
    rcases ho.2 with ⟨h', _⟩ | ⟨g', cap', cur, rfl, hbg, hg, h1, h2, h3, htake⟩
    · exfalso
      have := HN2.out.mp h'
      simp at this
    · refine ⟨_, _, rfl, ⟨HA.out.len, h1, by unfold maxLen at h2; omega, .inr ⟨g', rfl, hbg, mine_of_owns ho⟩⟩, hb⟩

theorem divide_nil (d : Int) (w : World) : Calls Try.prog 128 #[.slice none 0 0, .int .u32 d] w fun e w' => e = .returned (.int .u32 0) ∧ w = w' := by
  go_enter Try.func128, Try.ntmps128
  go_wp2
  go_loop [5, 11] (fun u v => u = .int .u64 0 ∧ v = .int .i64 0) (fun _ _ => 0)
  case atStart => exact ⟨rfl, rfl⟩
  case round =>
    obtain ⟨rfl, rfl⟩ := hrel
    go_wp2
    go_ret
    exact ⟨rfl, rfl⟩

/-- a row of one's own, or nothing, is divided where it lies -/
def DividesW (w : World) (base : Nat) (a : Option Addr) (len cap : Nat) (zs : List Int) (d : Int) (e : Ending) (w' : World) : Prop :=
  e = .returned (.int .u32 (val 4294967296 zs % d)) ∧ ∃ qs, Digs 4294967296 qs ∧ val 4294967296 qs = val 4294967296 zs / d ∧ Whose w' base a len cap qs ∧ (∀ row, (∀ g, a = some ⟨g, 0, none⟩ → row = some g) → w.grownBy w' row)
theorem divide_any (base : Nat) (a : Option Addr) (len cap : Nat) (zs : List Int) (d : Int) (w : World) (h : Whose w base a len cap zs) (hd : Digs 4294967296 zs) (d0 : 0 < d) (d1 : d < 4294967296) :
    Calls Try.prog 128 #[.slice a len cap, .int .u32 d] w (DividesW w base a len cap zs d) := by
  obtain ⟨h0, h1, h2, ⟨rfl, rfl⟩ | ⟨g, rfl, h3, h4⟩⟩ := h
  · obtain rfl : len = 0 := by omega
    obtain rfl := List.length_eq_zero_iff.mp h0
    refine (divide_nil d w).mono ?_
    rintro e w' ⟨rfl, rfl⟩
    exact ⟨by simp [val], [], Digs.nil, by simp [val], ⟨rfl, by omega, by omega, .inl ⟨rfl, rfl⟩⟩, fun _ _ => ⟨rfl, rfl, rfl, Nat.le_refl _, fun _ _ _ => rfl⟩⟩
  · refine (divide_mine g len cap zs d w h4 h0 h1 h2 hd d0 d1).mono ?_
    rintro e w' ⟨rfl, qs, q1, q2, q3, q4, q5⟩
    exact ⟨rfl, qs, q2, q3, ⟨q1.trans h0, h1, h2, .inr ⟨g, rfl, h3, q4⟩⟩, fun row hr => by rw [hr g rfl]; exact q5⟩
theorem grown_fresh {w w0 w' : World} {a : Option Addr} {base : Nat} (hb : Below base w0 w) (hB : base ≤ w.heap.size) (hf : Fresh base a)
    (h : ∀ row, (∀ g, a = some ⟨g, 0, none⟩ → row = some g) → w.grownBy w' row) : Below base w0 w' := by
  rcases a with _ | ⟨g, o, f⟩
  · exact hb.grown (h none (fun _ e => by cases e)) hB (fun k e => by cases e)
  · refine hb.grown (h (some g) (fun _ e => by cases e; rfl)) hB (fun k e => ?_)
    cases e
    exact hf _ rfl

def Parted (w : World) (m d : Int) (e : Ending) (w' : World) : Prop :=
  ∃ a len cap zs, e = .returned (.tuple #[.slice a len cap, .int .u32 (m % d), .int .i64 0]) ∧ Row .u32 w' a len cap zs ∧ Is 4294967296 zs (m / d) ∧ Fresh w.heap.size a ∧ Below w.heap.size w w'

theorem nDiv_zero (a : Option Addr) (la ca : Nat) (w : World) :
    Calls Try.prog 124 #[.slice a la ca, .int .u32 0] w fun e w' => e = .returned (.tuple #[.slice none 0 0, .int .u32 0, .int .i64 17]) ∧ w = w' := by
  go_enter Try.func124, Try.ntmps124
  go_wp2
  go_ret3
  exact ⟨rfl, rfl⟩

theorem nDiv_pos (a : Option Addr) (la ca : Nat) (za : List Int) (d : Int) (w : World) (ha : Row .u32 w a la ca za) (da : Digs 4294967296 za) (la6 : la ≤ 1000000) (d0 : 0 < d) (d1 : d < 4294967296) :
    Calls Try.prog 124 #[.slice a la ca, .int .u32 d] w (Parted w (val 4294967296 za) d) := by
  have HA := Lib.hid ha
  have DA := Lib.hid da
  clear ha da
  have b0 : (d == 0) = false := by simp; omega
  go_enter Try.func124, Try.ntmps124
  go_wp2_with (first
    | (go_at_call 127; refine (clone_any _ _ _ za _ HA.out la6).mono ?_; rintro e w1 ⟨a1, cp1, rfl, hw1, hb1⟩; have HW1 := Lib.hid hw1; have HB1 := Lib.hid hb1; clear hw1 hb1)
    | (go_at_call 128; refine (divide_any _ _ _ _ za _ _ HW1.out DA.out d0 d1).mono ?_; rintro e w2 ⟨rfl, qs, hq1, hq2, hq3, hq4⟩; have HQ1 := Lib.hid hq1; have HQ2 := Lib.hid hq2; have HQ3 := Lib.hid hq3; have HQ4 := Lib.hid hq4; clear hq1 hq2 hq3 hq4)
    | (go_at_call 100; refine (ncut_any _ _ _ qs _ HQ3.out.row HQ1.out).mono ?_; rintro e w3 ⟨m1, l1, rfl, hr1, hi1, rfl⟩; rw [HQ2.out] at hi1; have HR1 := Lib.hid hr1; have HI1 := Lib.hid hi1; clear hr1 hi1))
  go_ret3
  exact ⟨_, _, _, _, rfl, HR1.out, HI1.out, HW1.out.fresh, grown_fresh HB1.out HB1.out.size HW1.out.fresh HQ4.out⟩
end Go.Proofs.Ytnlgophgglgneaa
namespace Go.Proofs.Ytnlgophgglgneaa
open Go.RowKit

/-- a carrier called: what stays, and what is carried on -/
def Carries (w : World) (b : Nat) (s : Int) (e : Ending) (w' : World) : Prop :=
  e = .returned (.int .u32 (s % 4294967296)) ∧ w'.heap[b]? = some (.cells #[.int .u64 (s / 4294967296)] 92 (0, 0)) ∧ w.grownBy w' (some b)
theorem grown_one (w : World) (p : Addr) (u : Value) : w.grownBy (w.setCell p u) (some p.block) :=
  ⟨rfl, rfl, rfl, by simp [World.setCell], fun k _ hne => Below.heap_setCell w p u k (fun e => hne (by rw [e]))⟩
theorem carry_at (n c : Int) (b : Nat) (w : World) (h : w.heap[b]? = some (.cells #[.int .u64 c] 92 (0, 0))) (n0 : 0 ≤ n) (c0 : 0 ≤ c) (h1 : n + c ≤ 18446744073709551615) :
    Calls Try.prog 122 #[.int .u64 n, .pointer (some ⟨b, 0, none⟩)] w (Carries w b (n + c)) :=
  (carry_any n c b w h n0 c0 h1).mono fun _ _ ⟨he, hw⟩ => ⟨he, by rw [← hw]; exact one_setCell h, by rw [← hw]; exact grown_one w ⟨b, 0, none⟩ _⟩

theorem take_set_succ {ds : List Int} {i : Nat} {q : Int} (h : i < ds.length) : (ds.set i q).take (i + 1) = ds.take i ++ [q] := by
  rw [take_snoc (by rw [List.length_set]; exact h), List.take_set_of_le (Nat.le_refl _), List.getD_eq_getElem?_getD, List.getElem?_set_self h]
  rfl
theorem sum_nextB {B : Int} {ds za zb : List Int} {i : Nat} {c d q T : Int} (hl : ds.length = i) (h : c + za.getD i 0 + zb.getD i 0 = d + B * q)
    (hT : val B ds + B ^ i * (c + val B (za.drop i) + val B (zb.drop i)) = T) :
    val B (ds ++ [d]) + B ^ (i + 1) * (q + val B (za.drop (i + 1)) + val B (zb.drop (i + 1))) = T := by
  rw [val_append, hl, Int.pow_succ]
  have := sum_step (P := B ^ i) (A' := val B (za.drop (i + 1))) (B' := val B (zb.drop (i + 1))) h
  rw [← val_drop, ← val_drop] at this
  have e : val B [d] = d := by simp [val]
  rw [e]
  omega
theorem carry_none {P c v T : Int} (hP : 0 < P) (c0 : 0 ≤ c) (v0 : 0 ≤ v) (hT : T < P) (h : v + P * c = T) : c = 0 := by
  rcases Int.lt_or_le 0 c with g | g
  · exfalso
    have : P * 1 ≤ P * c := Int.mul_le_mul_of_nonneg_left (by omega) (by omega)
    omega
  · omega
theorem sum_lt {za zb : List Int} {k : Nat} (da : Digs 4294967296 za) (db : Digs 4294967296 zb) (ha : za.length ≤ k) (hb : zb.length ≤ k) : val 4294967296 za + val 4294967296 zb < 4294967296 ^ (k + 1) := by
  have h1 := val_lt (by omega) da
  have h2 := val_lt (by omega) db
  have h3 := ipow_le (B := 4294967296) (by omega) ha
  have h4 := ipow_le (B := 4294967296) (by omega) hb
  rw [Int.pow_succ]
  have := ipow_pos (B := 4294967296) (by omega) k
  omega
theorem digs_zeroB (n : Nat) : Digs 4294967296 (List.replicate n (0 : Int)) := fun z hz => by
  rw [List.mem_replicate] at hz; rw [hz.2]; omega
theorem one_grown {w w' : World} {b : Nat} {o : Obj} {row : Option Nat} (h : w.heap[b]? = some o) (hg : w.grownBy w' row) (hne : some b ≠ row) : w'.heap[b]? = some o := by
  rw [hg.block b (lt_of_block h) hne]; exact h

theorem nAdd_any (a : Option Addr) (la ca : Nat) (za : List Int) (b : Option Addr) (lb cb : Nat) (zb : List Int) (w : World)
    (ha : Row .u32 w a la ca za) (da : Digs 4294967296 za) (hb : Row .u32 w b lb cb zb) (db : Digs 4294967296 zb) (la6 : la ≤ 1000000) (lb6 : lb ≤ 1000000) :
    Calls Try.prog 105 #[.slice a la ca, .slice b lb cb] w (Gives .u32 w fun r => Is 4294967296 r (val 4294967296 za + val 4294967296 zb)) := by
  obtain ⟨i0, hi, hz0, hz1, hz2⟩ := info_parts Try.infoU32
  have HA := Lib.hid ha
  have HB := Lib.hid hb
  have DA := Lib.hid da
  have DB := Lib.hid db
  have LA := Lib.hid ha.len
  have LB := Lib.hid hb.len
  clear ha hb da db
  obtain ⟨T, hT⟩ : ∃ T, val 4294967296 za + val 4294967296 zb = T := ⟨_, rfl⟩
  rw [hT]
  have HT := Lib.hid hT
  clear hT
  by_cases hlt : lb ≤ la
  · have HBY := Lib.hid (show i0.bytes * (la + 1) ≤ 281474976710656 by rw [hz2]; omega)
    have HTL := Lib.hid (show T < 4294967296 ^ (la + 1) by rw [← HT.out]; exact sum_lt DA.out DB.out (by rw [LA.out]; omega) (by rw [LB.out]; omega))
    go_enter Try.func105, Try.ntmps105
    go_wp2_with (first
      | (at_make; refine wpList_make_full _ rfl _ _ 56 rfl w.heap.size 107 i0 (.int .u32 0) 1 Try.underlying56 hi hz0 hz1 _ _ _ _ (la + 1) rfl rfl (by omega) (by omega) HBY.out (by unfold maxLen; omega) (Nat.le_refl _) ?_; intro w1 hown hgrow; have HO := Lib.hid hown; have HG := Lib.hid hgrow; have hs1 := hgrow.size; have hl1 := (hown.lt w.heap.size rfl).2; clear hown hgrow)
      | (go_at_call 115; refine (carrier_any _ _).mono ?_; rintro e w2 ⟨rfl, hw2⟩; have HW2 := Lib.hid hw2; clear hw2))
    have M0 := Lib.hid (show Mine w2 w.heap.size (List.replicate (la + 1) 0) by
      rw [← HW2.out]
      refine Mine.alloc ?_ _
      have := HO.out
      rw [made_zeros] at this
      exact mine_of_owns this)
    have C0 := Lib.hid (show w2.heap[w1.heap.size]? = some (.cells #[.int .u64 0] 92 (0, 0)) by rw [← HW2.out]; exact heap_alloc_new w1 _)
    have B0 := Lib.hid (show Below w.heap.size w w2 by
      rw [← HW2.out]
      exact ((Below.refl _ _).grown HG.out (Nat.le_refl _) (fun g hg => by cases hg)).alloc hs1 _)
    go_loopw [18] (fun v wr => ∃ (i : Nat) (c : Int) (ds : List Int), v = .int .i64 i ∧ i ≤ la + 1 ∧ 0 ≤ c ∧ c ≤ 1 ∧ ds.length = la + 1 ∧ Digs 4294967296 ds ∧ Mine wr w.heap.size ds ∧ wr.heap[w1.heap.size]? = some (.cells #[.int .u64 c] 92 (0, 0)) ∧ val 4294967296 (ds.take i) + 4294967296 ^ i * (c + val 4294967296 (za.drop i) + val 4294967296 (zb.drop i)) = T ∧ Below w.heap.size w wr) (fun v _ => la + 1 - (intOf v).toNat)
    case atStart => exact ⟨0, 0, _, rfl, by omega, by omega, by omega, List.length_replicate, digs_zeroB _, M0.out, C0.out, by have := HT.out; simp [val]; exact this, B0.out⟩
    case round =>
      obtain ⟨i, c, ds, rfl, hik, c0, c1, hdl, hdg, hmi, hcb, hval, hbel⟩ := hrel
      have HDl := Lib.hid hdl
      have HDg := Lib.hid hdg
      have HMi := Lib.hid hmi
      have HCb := Lib.hid hcb
      have HVal := Lib.hid hval
      have HW := Lib.hid hbel
      have hsz := hbel.size
      clear hdl hdg hmi hcb hval hbel
      by_cases go : i < la + 1
      · have b1 : decide ((i : Int) < (la : Int) + 1) = true := by simp; omega
        obtain ⟨x1, x2⟩ := DA.out.getD (by omega) i
        obtain ⟨y1, y2⟩ := DB.out.getD (by omega) i
        obtain ⟨x, hx⟩ : ∃ x, za.getD i 0 = x := ⟨_, rfl⟩
        obtain ⟨y, hy⟩ : ∃ y, zb.getD i 0 = y := ⟨_, rfl⟩
        rw [hx] at x1 x2
        rw [hy] at y1 y2
        have HX := Lib.hid hx
        have HY := Lib.hid hy
        clear hx hy
        go_wp2_with (first
          | (go_at_call 116; ((with_reducible refine (limb_any a la ca za i _ (HA.out.below HW.out)).mono ?_)); rintro e w' ⟨rfl, rfl⟩; rw [HX.out])
          | (go_at_call 116; ((with_reducible refine (limb_any b lb cb zb i _ (HB.out.below HW.out)).mono ?_)); rintro e w' ⟨rfl, rfl⟩; rw [HY.out])
          | (go_at_call 122; refine (carry_at _ c _ _ HCb.out (by omega) (by omega) (by omega)).mono ?_; rintro e w3 ⟨rfl, hc3, hg3⟩; have HC3 := Lib.hid hc3; have HG3 := Lib.hid hg3; have hm3 := HMi.out.grown hg3 (by simp; omega); have hcl := hm3.cell (i := i) (by rw [HDl.out]; omega); have hfr := hm3.free i; have HM3 := Lib.hid hm3; clear hc3 hg3 hm3))
        go_roundw
        case rel =>
          refine ⟨i + 1, (x + y + c) / 4294967296, ds.set i ((x + y + c) % 4294967296), by go_num, by omega, by omega, by omega, by rw [List.length_set]; exact HDl.out, digs_setB HDg.out ⟨by omega, by omega⟩, HM3.out.set i _, ?_, ?_, ?_⟩
          · rw [Below.heap_setCell _ _ _ _ (by simp; omega)]; exact HC3.out
          · rw [take_set_succ (by rw [HDl.out]; omega)]
            exact sum_nextB (by rw [List.length_take, HDl.out]; omega) (by rw [HX.out, HY.out]; omega) HVal.out
          · exact (HW.out.grown HG3.out hsz (fun g hg => by cases hg; exact hs1)).setCell (Nat.le_refl _) _
        case measure => simp [intOf]; omega
      · obtain rfl : i = la + 1 := by omega
        have b1 : decide ((((la + 1 : Nat) : Int)) < (la : Int) + 1) = false := by simp
        have hv : val 4294967296 ds = T := by
          have h1 := HVal.out
          rw [List.take_of_length_le (by rw [HDl.out]; omega), List.drop_eq_nil_of_le (by rw [LA.out]; omega), List.drop_eq_nil_of_le (by rw [LB.out]; omega)] at h1
          simp only [val, Int.add_zero] at h1
          have h2 := carry_none (ipow_pos (by omega) _) c0 (val_nonneg (by omega) HDg.out) HTL.out h1
          subst h2
          simpa using h1
        have HV := Lib.hid hv
        clear hv
        have HR := Lib.hid (HMi.out.row (cap := la + 1) (by rw [HDl.out]; omega) (by omega))
        rw [HDl.out] at HR
        go_wp2_with (go_at_call 100; refine (ncut_any _ _ _ ds _ HR.out HDg.out).mono ?_; rintro e w' ⟨m1, l1, rfl, hr1, hi1, rfl⟩; rw [HV.out] at hi1; have HR1 := Lib.hid hr1; have HI1 := Lib.hid hi1; clear hr1 hi1)
        go_ret
        exact ⟨_, _, _, _, rfl, HR1.out, HI1.out, HW.out, (fun ad h => by cases h; exact Nat.le_refl _)⟩
  · have HBY := Lib.hid (show i0.bytes * (lb + 1) ≤ 281474976710656 by rw [hz2]; omega)
    have HTL := Lib.hid (show T < 4294967296 ^ (lb + 1) by rw [← HT.out]; exact sum_lt DA.out DB.out (by rw [LA.out]; omega) (by rw [LB.out]; omega))
    go_enter Try.func105, Try.ntmps105
    go_wp2_with (first
      | (at_make; refine wpList_make_full _ rfl _ _ 56 rfl w.heap.size 107 i0 (.int .u32 0) 1 Try.underlying56 hi hz0 hz1 _ _ _ _ (lb + 1) rfl rfl (by omega) (by omega) HBY.out (by unfold maxLen; omega) (Nat.le_refl _) ?_; intro w1 hown hgrow; have HO := Lib.hid hown; have HG := Lib.hid hgrow; have hs1 := hgrow.size; have hl1 := (hown.lt w.heap.size rfl).2; clear hown hgrow)
      | (go_at_call 115; refine (carrier_any _ _).mono ?_; rintro e w2 ⟨rfl, hw2⟩; have HW2 := Lib.hid hw2; clear hw2))
    have M0 := Lib.hid (show Mine w2 w.heap.size (List.replicate (lb + 1) 0) by
      rw [← HW2.out]
      refine Mine.alloc ?_ _
      have := HO.out
      rw [made_zeros] at this
      exact mine_of_owns this)
    have C0 := Lib.hid (show w2.heap[w1.heap.size]? = some (.cells #[.int .u64 0] 92 (0, 0)) by rw [← HW2.out]; exact heap_alloc_new w1 _)
    have B0 := Lib.hid (show Below w.heap.size w w2 by
      rw [← HW2.out]
      exact ((Below.refl _ _).grown HG.out (Nat.le_refl _) (fun g hg => by cases hg)).alloc hs1 _)
    go_loopw [18] (fun v wr => ∃ (i : Nat) (c : Int) (ds : List Int), v = .int .i64 i ∧ i ≤ lb + 1 ∧ 0 ≤ c ∧ c ≤ 1 ∧ ds.length = lb + 1 ∧ Digs 4294967296 ds ∧ Mine wr w.heap.size ds ∧ wr.heap[w1.heap.size]? = some (.cells #[.int .u64 c] 92 (0, 0)) ∧ val 4294967296 (ds.take i) + 4294967296 ^ i * (c + val 4294967296 (za.drop i) + val 4294967296 (zb.drop i)) = T ∧ Below w.heap.size w wr) (fun v _ => lb + 1 - (intOf v).toNat)
    case atStart => exact ⟨0, 0, _, rfl, by omega, by omega, by omega, List.length_replicate, digs_zeroB _, M0.out, C0.out, by have := HT.out; simp [val]; exact this, B0.out⟩
    case round =>
      obtain ⟨i, c, ds, rfl, hik, c0, c1, hdl, hdg, hmi, hcb, hval, hbel⟩ := hrel
      have HDl := Lib.hid hdl
      have HDg := Lib.hid hdg
      have HMi := Lib.hid hmi
      have HCb := Lib.hid hcb
      have HVal := Lib.hid hval
      have HW := Lib.hid hbel
      have hsz := hbel.size
      clear hdl hdg hmi hcb hval hbel
      by_cases go : i < lb + 1
      · have b1 : decide ((i : Int) < (lb : Int) + 1) = true := by simp; omega
        obtain ⟨x1, x2⟩ := DA.out.getD (by omega) i
        obtain ⟨y1, y2⟩ := DB.out.getD (by omega) i
        obtain ⟨x, hx⟩ : ∃ x, za.getD i 0 = x := ⟨_, rfl⟩
        obtain ⟨y, hy⟩ : ∃ y, zb.getD i 0 = y := ⟨_, rfl⟩
        rw [hx] at x1 x2
        rw [hy] at y1 y2
        have HX := Lib.hid hx
        have HY := Lib.hid hy
        clear hx hy
        go_wp2_with (first
          | (go_at_call 116; ((with_reducible refine (limb_any a la ca za i _ (HA.out.below HW.out)).mono ?_)); rintro e w' ⟨rfl, rfl⟩; rw [HX.out])
          | (go_at_call 116; ((with_reducible refine (limb_any b lb cb zb i _ (HB.out.below HW.out)).mono ?_)); rintro e w' ⟨rfl, rfl⟩; rw [HY.out])
          | (go_at_call 122; refine (carry_at _ c _ _ HCb.out (by omega) (by omega) (by omega)).mono ?_; rintro e w3 ⟨rfl, hc3, hg3⟩; have HC3 := Lib.hid hc3; have HG3 := Lib.hid hg3; have hm3 := HMi.out.grown hg3 (by simp; omega); have hcl := hm3.cell (i := i) (by rw [HDl.out]; omega); have hfr := hm3.free i; have HM3 := Lib.hid hm3; clear hc3 hg3 hm3))
        go_roundw
        case rel =>
          refine ⟨i + 1, (x + y + c) / 4294967296, ds.set i ((x + y + c) % 4294967296), by go_num, by omega, by omega, by omega, by rw [List.length_set]; exact HDl.out, digs_setB HDg.out ⟨by omega, by omega⟩, HM3.out.set i _, ?_, ?_, ?_⟩
          · rw [Below.heap_setCell _ _ _ _ (by simp; omega)]; exact HC3.out
          · rw [take_set_succ (by rw [HDl.out]; omega)]
            exact sum_nextB (by rw [List.length_take, HDl.out]; omega) (by rw [HX.out, HY.out]; omega) HVal.out
          · exact (HW.out.grown HG3.out hsz (fun g hg => by cases hg; exact hs1)).setCell (Nat.le_refl _) _
        case measure => simp [intOf]; omega
      · obtain rfl : i = lb + 1 := by omega
        have b1 : decide ((((lb + 1 : Nat) : Int)) < (lb : Int) + 1) = false := by simp
        have hv : val 4294967296 ds = T := by
          have h1 := HVal.out
          rw [List.take_of_length_le (by rw [HDl.out]; omega), List.drop_eq_nil_of_le (by rw [LA.out]; omega), List.drop_eq_nil_of_le (by rw [LB.out]; omega)] at h1
          simp only [val, Int.add_zero] at h1
          have h2 := carry_none (ipow_pos (by omega) _) c0 (val_nonneg (by omega) HDg.out) HTL.out h1
          subst h2
          simpa using h1
        have HV := Lib.hid hv
        clear hv
        have HR := Lib.hid (HMi.out.row (cap := lb + 1) (by rw [HDl.out]; omega) (by omega))
        rw [HDl.out] at HR
        go_wp2_with (go_at_call 100; refine (ncut_any _ _ _ ds _ HR.out HDg.out).mono ?_; rintro e w' ⟨m1, l1, rfl, hr1, hi1, rfl⟩; rw [HV.out] at hi1; have HR1 := Lib.hid hr1; have HI1 := Lib.hid hi1; clear hr1 hi1)
        go_ret
        exact ⟨_, _, _, _, rfl, HR1.out, HI1.out, HW.out, (fun ad h => by cases h; exact Nat.le_refl _)⟩
end Go.Proofs.Ytnlgophgglgneaa
namespace Go.Proofs.Ytnlgophgglgneaa
open Go.RowKit

theorem nSub_lt (a : Option Addr) (la ca : Nat) (za : List Int) (b : Option Addr) (lb cb : Nat) (zb : List Int) (w : World)
    (ha : Row .u32 w a la ca za) (da : Digs 4294967296 za) (hb : Row .u32 w b lb cb zb) (db : Digs 4294967296 zb) (hlt : val 4294967296 za < val 4294967296 zb) :
    Calls Try.prog 131 #[.slice a la ca, .slice b lb cb] w fun e w' => e = .returned (.tuple #[.slice none 0 0, .int .i64 16]) ∧ Below w.heap.size w w' := by
  have HA := Lib.hid ha
  have HB := Lib.hid hb
  have DA := Lib.hid da
  have DB := Lib.hid db
  have E := Lib.hid (cmpI_lt hlt)
  clear ha hb da db hlt
  go_enter Try.func131, Try.ntmps131
  go_wp2_with (go_at_call 130; refine (nCmp_any _ _ _ za _ _ _ zb _ HA.out DA.out HB.out DB.out).mono ?_; rintro e w' ⟨rfl, n, rfl⟩; rw [E.out])
  go_ret2
  exact ⟨rfl, ⟨rfl, rfl, rfl, Nat.le_refl _, fun _ _ => rfl⟩⟩

theorem sub_nextB {B : Int} {ds za zb : List Int} {i : Nat} {c d c' T : Int} (hl : ds.length = i) (h : za.getD i 0 - zb.getD i 0 - c = d - B * c')
    (hT : val B ds + B ^ i * (val B (za.drop i) - val B (zb.drop i) - c) = T) :
    val B (ds ++ [d]) + B ^ (i + 1) * (val B (za.drop (i + 1)) - val B (zb.drop (i + 1)) - c') = T := by
  rw [val_append, hl, Int.pow_succ]
  have := sub_step (P := B ^ i) (A' := val B (za.drop (i + 1))) (B' := val B (zb.drop (i + 1))) h
  rw [← val_drop, ← val_drop] at this
  have e : val B [d] = d := by simp [val]
  rw [e]
  omega
theorem sub_endB {B : Int} (hB : 0 < B) {ds : List Int} {c T : Int} (hd : Digs B ds) (c0 : 0 ≤ c) (hT : 0 ≤ T) (h : val B ds + B ^ ds.length * (0 - 0 - c) = T) : val B ds = T := by
  have h1 := val_lt hB hd
  rcases Int.lt_or_le 0 c with g | g
  · exfalso
    have h2 : B ^ ds.length * 1 ≤ B ^ ds.length * c := Int.mul_le_mul_of_nonneg_left (by omega) (Int.le_of_lt (ipow_pos hB _))
    have h3 : B ^ ds.length * (0 - 0 - c) = - (B ^ ds.length * c) := by rw [show (0 : Int) - 0 - c = -c by omega, Int.mul_neg]
    omega
  · obtain rfl : c = 0 := by omega
    simpa using h

theorem not_limb {y : Int} (y0 : 0 ≤ y) (y1 : y < 4294967296) : bits .xor .u32 4294967295 y = 4294967295 - y := by
  obtain ⟨b, rfl⟩ := Int.eq_ofNat_of_zero_le y0
  have e := u32_xor_nat 4294967295 b (by omega) (by omega)
  have h := congrArg BitVec.toNat (BitVec.allOnes_xor (x := BitVec.ofNat 32 b))
  rw [BitVec.toNat_xor, BitVec.toNat_not, BitVec.toNat_allOnes, BitVec.toNat_ofNat, Nat.mod_eq_of_lt (by omega)] at h
  have c : ((4294967295 : Nat) : Int) = 4294967295 := rfl
  rw [c] at e
  rw [e]
  simp at h
  omega
theorem turned {x y : Int} (x0 : 0 ≤ x) (x1 : x < 4294967296) (y0 : 0 ≤ y) (y1 : y < 4294967296) :
    IntKind.u64.wrap (IntKind.u64.wrap x + IntKind.u64.wrap (bits BinOp.xor IntKind.u32 (if IntKind.u32.signed = true then -1 else IntKind.u32.max) y)) = x + (4294967295 - y) := by
  have h1 : (if IntKind.u32.signed = true then -1 else IntKind.u32.max) = 4294967295 := rfl
  rw [h1, not_limb y0 y1, IntKind.wrap_u64, IntKind.wrap_u64, IntKind.wrap_u64]
  omega

def SubP (w : World) (t : Int) (e : Ending) (w' : World) : Prop :=
  ∃ a len cap zs, e = .returned (.tuple #[.slice a len cap, .int .i64 0]) ∧ Row .u32 w' a len cap zs ∧ Is 4294967296 zs t ∧ Fresh w.heap.size a ∧ Below w.heap.size w w'

set_option maxRecDepth 100000 in
theorem nSub_ge (a : Option Addr) (la ca : Nat) (za : List Int) (m : Int) (b : Option Addr) (lb cb : Nat) (zb : List Int) (n : Int) (w : World)
    (ha : Row .u32 w a la ca za) (ia : Is 4294967296 za m) (hb : Row .u32 w b lb cb zb) (ib : Is 4294967296 zb n) (hge : n ≤ m) (la6 : la ≤ 1000000) :
    Calls Try.prog 131 #[.slice a la ca, .slice b lb cb] w (SubP w (m - n)) := by
  obtain ⟨i0, hi, hz0, hz1, hz2⟩ := info_parts Try.infoU32
  have hll : lb ≤ la := by have := len_ge (by omega) ia ib hge; rw [ha.len, hb.len] at this; exact this
  have E := Lib.hid (cmpI_ge hge)
  obtain ⟨kk, hkk⟩ : ∃ kk, cmpI m n = kk := ⟨_, rfl⟩
  rw [hkk] at E
  have HKK := Lib.hid hkk
  clear hkk
  have HGE := Lib.hid hge
  have k0 := E.out
  have kb : decide (kk < 0) = false := by simp; omega
  have HA := Lib.hid ha
  have HB := Lib.hid hb
  have IA := Lib.hid ia
  have IB := Lib.hid ib
  have LA := Lib.hid ha.len
  have LB := Lib.hid hb.len
  clear ha hb ia ib hge
  have HBY := Lib.hid (show i0.bytes * la ≤ 281474976710656 by rw [hz2]; omega)
  go_enter Try.func131, Try.ntmps131
  go_wp2_with (first
    | (go_at_call 130; refine (nCmp_any _ _ _ za _ _ _ zb _ HA.out IA.out.1 HB.out IB.out.1).mono ?_; rintro e w0 ⟨rfl, nd, hw0⟩; rw [IA.out.2.2, IB.out.2.2, HKK.out]; have HW0 := Lib.hid hw0; have S0 := Lib.hid (show w0.heap.size = w.heap.size by rw [hw0]; rfl); clear hw0)
    | (at_make; refine wpList_make_full _ rfl _ _ 56 rfl w0.heap.size 107 i0 (.int .u32 0) 1 Try.underlying56 hi hz0 hz1 _ _ _ _ la rfl rfl (by omega) (by omega) HBY.out (by unfold maxLen; omega) (Nat.le_refl _) ?_; intro w1 hown hgrow; have HO := Lib.hid hown; have HG := Lib.hid hgrow; have hs1 := hgrow.size; have hl1 := (hown.lt w0.heap.size rfl).2; clear hown hgrow)
    | (go_at_call 115; refine (carrier_any _ _).mono ?_; rintro e w2 ⟨rfl, hw2⟩; have HW2 := Lib.hid hw2; clear hw2))
  have M0 := Lib.hid (show Mine w2 w0.heap.size (List.replicate la 0) by
    rw [← HW2.out]
    refine Mine.alloc ?_ _
    have := HO.out
    rw [made_zeros] at this
    exact mine_of_owns this)
  have C0 := Lib.hid (show w2.heap[w1.heap.size]? = some (.cells #[.int .u64 1] 92 (0, 0)) by rw [← HW2.out]; exact heap_alloc_new w1 _)
  have B0 := Lib.hid (show Below w0.heap.size w0 w2 by
    rw [← HW2.out]
    exact ((Below.refl _ _).grown HG.out (Nat.le_refl _) (fun g hg => by cases hg)).alloc hs1 _)
  have HA0 := Lib.hid (show Row .u32 w0 a la ca za by rw [HW0.out]; exact HA.out)
  have HB0 := Lib.hid (show Row .u32 w0 b lb cb zb by rw [HW0.out]; exact HB.out)
  have BW := Lib.hid (show Below w0.heap.size w w0 by rw [HW0.out]; exact ⟨rfl, rfl, rfl, Nat.le_refl _, fun _ _ => rfl⟩)
  go_loopw [19] (fun v wr => ∃ (i : Nat) (c : Int) (ds : List Int), v = .int .i64 i ∧ i ≤ la ∧ 0 ≤ c ∧ c ≤ 1 ∧ ds.length = la ∧ Digs 4294967296 ds ∧ Mine wr w0.heap.size ds ∧ wr.heap[w1.heap.size]? = some (.cells #[.int .u64 c] 92 (0, 0)) ∧ val 4294967296 (ds.take i) + 4294967296 ^ i * (val 4294967296 (za.drop i) - val 4294967296 (zb.drop i) - (1 - c)) = m - n ∧ Below w0.heap.size w0 wr) (fun v _ => la - (intOf v).toNat)
  case atStart => exact ⟨0, 1, _, rfl, by omega, by omega, by omega, List.length_replicate, digs_zeroB _, M0.out, C0.out, by have h1 := IA.out.2.2; have h2 := IB.out.2.2; simp [val]; omega, B0.out⟩
  case round =>
    obtain ⟨i, c, ds, rfl, hik, c0, c1, hdl, hdg, hmi, hcb, hval, hbel⟩ := hrel
    have HDl := Lib.hid hdl
    have HDg := Lib.hid hdg
    have HMi := Lib.hid hmi
    have HCb := Lib.hid hcb
    have HVal := Lib.hid hval
    have HW := Lib.hid hbel
    have hsz := hbel.size
    clear hdl hdg hmi hcb hval hbel
    by_cases go : i < la
    · have b1 : decide ((i : Int) < (la : Int)) = true := by simp; omega
      obtain ⟨ba, oa, rfl, hca⟩ := (HA0.out.below HW.out).cell go
      obtain ⟨x1, x2⟩ := IA.out.1.getD (by omega) i
      obtain ⟨y1, y2⟩ := IB.out.1.getD (by omega) i
      obtain ⟨x, hx⟩ : ∃ x, za.getD i 0 = x := ⟨_, rfl⟩
      obtain ⟨y, hy⟩ : ∃ y, zb.getD i 0 = y := ⟨_, rfl⟩
      rw [hx] at x1 x2 hca
      rw [hy] at y1 y2
      have HX := Lib.hid hx
      have HY := Lib.hid hy
      clear hx hy
      have j1 : (i : Int) < (la : Int) := by omega
      have j2 : 0 ≤ (i : Int) := by omega
      have hltb := World.block_lt_of_cell? _ _ hca
      have HCA := Lib.hid (show wr.drew.cell? ⟨ba, oa + i, none⟩ = some (.int .u32 x) from hca)
      have HCbD := Lib.hid (show wr.drew.heap[w1.heap.size]? = some (.cells #[.int .u64 c] 92 (0, 0)) from HCb.out)
      have hlt0 : ba < w0.heap.size := by
        obtain ⟨b', o', he, hc'⟩ := HA0.out.cell go
        simp only [Option.some.injEq, Addr.mk.injEq] at he
        obtain ⟨rfl, rfl, _⟩ := he
        exact World.block_lt_of_cell? _ _ hc'
      go_wp2
      go_region_held3 (fun w' => w'.cell? ⟨ba, oa + i, none⟩ = some (.int .u32 x)) (first | go_keep | exact HK3.out | exact (World.cell?_of_block (w := w3) (Below.heap_setCell w3 _ _ ba (by simp; omega))).trans HK3.out)
        (first
          | (go_at_call 116; refine (limb_any b lb cb zb i _ (HB0.out.below HW.out).drew).mono ?_; rintro e w' ⟨rfl, rfl⟩; rw [HY.out])
          | (go_at_call 122; rw [turned x1 x2 y1 y2]; refine (carry_at (x + (4294967295 - y)) c w1.heap.size wr.drew HCbD.out (by omega) (by omega) (by omega)).mono ?_; rintro e w3 ⟨rfl, hc3, hg3⟩; have HC3 := Lib.hid hc3; have HG3 := Lib.hid hg3; have hm3 := HMi.out.drew.grown hg3 (by simp; omega); have hcl := hm3.cell (i := i) (by rw [HDl.out]; omega); have hfr := hm3.free i; have HM3 := Lib.hid hm3; have HK3 := Lib.hid (hg3.cell (a := ⟨ba, oa + i, none⟩) HCA.out (by simp; omega)); clear hc3 hg3 hm3))
      all_goals
        go_wp2
        go_roundw
        case rel =>
          refine ⟨i + 1, (x + (4294967295 - y) + c) / 4294967296, ds.set i ((x + (4294967295 - y) + c) % 4294967296), by go_num, by omega, by omega, by omega, by rw [List.length_set]; exact HDl.out, digs_setB HDg.out ⟨by omega, by omega⟩, HM3.out.set i _, ?_, ?_, ?_⟩
          · rw [Below.heap_setCell _ _ _ _ (by simp; omega)]; exact HC3.out
          · rw [take_set_succ (by rw [HDl.out]; omega)]
            exact sub_nextB (by rw [List.length_take, HDl.out]; omega) (by rw [HX.out, HY.out]; omega) HVal.out
          · exact (HW.out.drew.grown HG3.out hsz (fun g hg => by cases hg; exact hs1)).setCell (Nat.le_refl _) _
        case measure => simp [intOf]; omega
    · obtain rfl : i = la := by omega
      have b1 : decide ((i : Int) < (i : Int)) = false := by simp
      have hv : val 4294967296 ds = m - n := by
        have h1 := HVal.out
        have hge := HGE.out
        rw [List.take_of_length_le (by rw [HDl.out]; omega), List.drop_eq_nil_of_le (by rw [LA.out]; omega), List.drop_eq_nil_of_le (by rw [LB.out]; omega)] at h1
        rw [← HDl.out] at h1
        exact sub_endB (c := 1 - c) (by omega) HDg.out (by omega) (by omega) h1
      have HV := Lib.hid hv
      clear hv
      have HR := Lib.hid (HMi.out.row (cap := i) (by rw [HDl.out]; omega) (by omega))
      rw [HDl.out] at HR
      go_wp2_with (go_at_call 100; refine (ncut_any _ _ _ ds _ HR.out HDg.out).mono ?_; rintro e w' ⟨m1, l1, rfl, hr1, hi1, rfl⟩; rw [HV.out] at hi1; have HR1 := Lib.hid hr1; have HI1 := Lib.hid hi1; clear hr1 hi1)
      go_ret2
      exact ⟨_, _, _, _, rfl, HR1.out, HI1.out, (fun ad h => by cases h; exact Nat.le_of_eq S0.out.symm), by rw [← S0.out]; exact BW.out.trans HW.out⟩
end Go.Proofs.Ytnlgophgglgneaa

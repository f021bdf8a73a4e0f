/-
  Plain facts on numbers by their digits, the lowest first; no Go in sight.
  What the document's digits give back: cut, add, times, small: contracts.
  What the document's digits give back: times, small, sub: contracts.
  What the document's numbers give back: cmp, Same, Check, Of: contracts.
  What the document's digits give back: FromLimbs, mul: contracts.
  What the document's digits give back: div, Limbs: contracts.
  What the document's numbers give back: made (of the laws), Cmp, Add, Mul, Sub: contracts.
  What the document's numbers give back: Sub, Div: contracts.
  What the document's numbers give back: Text, Parse: contracts.
  What the document's numbers give back: Parse: contracts.
-/
import Derived.WalkKit
import Derived.Test.YtnlgophgglgneaaProg
import Derived.Test.YtnlgophgglgneaaKit
import Derived.Outline
import Derived.Deep.RegionHeld3
import Derived.Laws.AppendOwnNone
import Derived.Laws.IdiomStrings
namespace Go.Proofs.Ytnlgophgglgneaa
open Go.RowKit

def val (B : Int) : List Int → Int
  | [] => 0
  | d :: r => d + B * val B r
def Digs (B : Int) (zs : List Int) : Prop := ∀ z ∈ zs, 0 ≤ z ∧ z < B
def Top (zs : List Int) : Prop := zs.getLast? ≠ some 0
/-- zs is the number n, by digits below B, without noughts at the end -/
def Is (B : Int) (zs : List Int) (n : Int) : Prop := Digs B zs ∧ Top zs ∧ val B zs = n

theorem ipow_pos {B : Int} (h : 0 < B) (n : Nat) : 0 < B ^ n := by
  induction n with
  | zero => simp
  | succ n ih => rw [Int.pow_succ]; exact Int.mul_pos ih h
theorem val_append (B : Int) (x y : List Int) : val B (x ++ y) = val B x + B ^ x.length * val B y := by
  induction x with
  | nil => simp [val]
  | cons d r ih =>
    rw [List.cons_append, val, val, ih, List.length_cons, Int.pow_succ, Int.mul_add, Int.add_assoc, Int.mul_comm (B ^ r.length) B, Int.mul_assoc]
theorem Digs.tail {B d : Int} {r : List Int} (h : Digs B (d :: r)) : Digs B r := fun z hz => h z (List.mem_cons_of_mem _ hz)
theorem Digs.head {B d : Int} {r : List Int} (h : Digs B (d :: r)) : 0 ≤ d ∧ d < B := h d (List.mem_cons_self ..)
theorem Digs.snoc {B d : Int} {r : List Int} (h : Digs B r) (hd : 0 ≤ d ∧ d < B) : Digs B (r ++ [d]) := fun z hz => by
  rw [List.mem_append, List.mem_singleton] at hz
  rcases hz with hz | rfl
  · exact h z hz
  · exact hd
theorem Digs.nil {B : Int} : Digs B [] := fun z hz => by cases hz
theorem Digs.drop {B : Int} {r : List Int} (h : Digs B r) (n : Nat) : Digs B (r.drop n) := fun z hz => h z (List.mem_of_mem_drop hz)
theorem Digs.take {B : Int} {r : List Int} (h : Digs B r) (n : Nat) : Digs B (r.take n) := fun z hz => h z (List.mem_of_mem_take hz)
theorem Digs.getD {B : Int} {r : List Int} (h : Digs B r) (hB : 0 < B) (n : Nat) : 0 ≤ r.getD n 0 ∧ r.getD n 0 < B := by
  by_cases hn : n < r.length
  · rw [List.getD_eq_getElem?_getD, List.getElem?_eq_getElem hn]; exact h _ (List.getElem_mem hn)
  · rw [List.getD_eq_getElem?_getD, List.getElem?_eq_none (by omega)]; exact ⟨by simp, by simpa using hB⟩
theorem val_nonneg {B : Int} (hB : 0 < B) {zs : List Int} (h : Digs B zs) : 0 ≤ val B zs := by
  induction zs with
  | nil => simp [val]
  | cons d r ih =>
    have h1 := ih h.tail
    have h2 := h.head.1
    have := Int.mul_nonneg (Int.le_of_lt hB) h1
    rw [val]; omega
theorem val_lt {B : Int} (hB : 0 < B) {zs : List Int} (h : Digs B zs) : val B zs < B ^ zs.length := by
  induction zs with
  | nil => simp [val]
  | cons d r ih =>
    have h1 := ih h.tail
    have h2 := h.head.2
    have h3 : B * (val B r + 1) ≤ B * B ^ r.length := Int.mul_le_mul_of_nonneg_left (by omega) (by omega)
    rw [val, List.length_cons, Int.pow_succ, Int.mul_comm (B ^ r.length) B]
    rw [Int.mul_add] at h3
    omega
theorem Top.tail {d : Int} {r : List Int} (h : Top (d :: r)) : Top r := by
  cases r with
  | nil => simp [Top]
  | cons x l => simpa [Top, List.getLast?_cons_cons] using h
theorem top_zero {B : Int} (hB : 0 < B) {zs : List Int} (h : Digs B zs) (ht : Top zs) (hv : val B zs = 0) : zs = [] := by
  induction zs with
  | nil => rfl
  | cons d r ih =>
    exfalso
    have h1 := val_nonneg hB h.tail
    have h2 := h.head.1
    rw [val] at hv
    have h3 := Int.mul_nonneg (Int.le_of_lt hB) h1
    have h4 : B * val B r = 0 := by omega
    have h5 : val B r = 0 := by
      rcases Int.mul_eq_zero.mp h4 with h | h
      · omega
      · exact h
    have h6 := ih h.tail ht.tail h5
    subst h6
    apply ht
    simp; omega
theorem digit_unique {B d d' v v' : Int} (h1 : 0 ≤ d) (h2 : d < B) (h3 : 0 ≤ d') (h4 : d' < B) (h : d + B * v = d' + B * v') : d = d' ∧ v = v' := by
  have e1 : (d + B * v) % B = d := by rw [Int.add_mul_emod_self_left, Int.emod_eq_of_lt h1 h2]
  have e2 : (d' + B * v') % B = d' := by rw [Int.add_mul_emod_self_left, Int.emod_eq_of_lt h3 h4]
  have e3 : d = d' := by rw [← e1, ← e2, h]
  refine ⟨e3, ?_⟩
  subst e3
  exact Int.eq_of_mul_eq_mul_left (show B ≠ 0 by omega) (by omega)
theorem is_unique {B : Int} (hB : 0 < B) : ∀ {zs zs' : List Int} {n : Int}, Is B zs n → Is B zs' n → zs = zs'
  | [], zs', n, h, h' => by
    have : n = 0 := h.2.2.symm
    subst this
    exact (top_zero hB h'.1 h'.2.1 h'.2.2).symm
  | d :: r, [], n, h, h' => by
    have : n = 0 := h'.2.2.symm
    subst this
    exact top_zero hB h.1 h.2.1 h.2.2
  | d :: r, d' :: r', n, h, h' => by
    have e : d + B * val B r = d' + B * val B r' := h.2.2.trans h'.2.2.symm
    have u := digit_unique h.1.head.1 h.1.head.2 h'.1.head.1 h'.1.head.2 e
    have := is_unique hB (zs := r) (zs' := r') (n := val B r) ⟨h.1.tail, h.2.1.tail, rfl⟩ ⟨h'.1.tail, h'.2.1.tail, u.2.symm⟩
    rw [u.1, this]
theorem is_nil {B : Int} : Is B [] 0 := ⟨Digs.nil, by simp [Top], rfl⟩
theorem Is.nonneg {B n : Int} {zs : List Int} (hB : 0 < B) (h : Is B zs n) : 0 ≤ n := by rw [← h.2.2]; exact val_nonneg hB h.1
theorem ipow_le {B : Int} (hB : 1 ≤ B) {m n : Nat} (h : m ≤ n) : B ^ m ≤ B ^ n := by
  induction h with
  | refl => exact Int.le_refl _
  | step _ ih =>
    rename_i k _
    rw [Int.pow_succ]
    have h1 := ipow_pos (show 0 < B by omega) k
    have := Int.mul_le_mul_of_nonneg_left hB (Int.le_of_lt h1)
    omega
theorem Is.pow_le {B : Int} (hB : 0 < B) : ∀ {zs : List Int} {n : Int}, Is B zs n → zs ≠ [] → B ^ (zs.length - 1) ≤ n
  | [], _, _, h => absurd rfl h
  | [d], n, h, _ => by
    have h1 := h.1.head
    have h2 := h.2.1
    have h3 := h.2.2
    simp [Top] at h2
    simp [val] at h3
    simp; omega
  | d :: x :: l, n, h, _ => by
    have ih := Is.pow_le hB (zs := x :: l) (n := val B (x :: l)) ⟨h.1.tail, h.2.1.tail, rfl⟩ (by simp)
    have h1 := h.1.head.1
    have h3 := h.2.2
    rw [val] at h3
    have h4 := Int.mul_le_mul_of_nonneg_left ih (Int.le_of_lt hB)
    have e : B ^ ((d :: x :: l).length - 1) = B * B ^ ((x :: l).length - 1) := by
      simp only [List.length_cons, Nat.add_sub_cancel]
      rw [Int.pow_succ, Int.mul_comm]
    rw [e]; omega
/-- a number below B ^ L has at most L digits -/
theorem Is.len_le {B : Int} (hB : 1 < B) {zs : List Int} {n : Int} {L : Nat} (h : Is B zs n) (hn : n < B ^ L) : zs.length ≤ L := by
  by_cases e : zs = []
  · subst e; simp
  · have h1 := Is.pow_le (by omega) h e
    by_cases g : zs.length ≤ L
    · exact g
    · exfalso
      have := ipow_le (B := B) (by omega) (show L ≤ zs.length - 1 by omega)
      omega
theorem take_snoc {ms : List Int} {t : Nat} (h : t < ms.length) : ms.take (t + 1) = ms.take t ++ [ms.getD t 0] := by
  rw [List.take_succ_eq_append_getElem h, List.getD_eq_getElem?_getD, List.getElem?_eq_getElem h]; rfl
theorem drop_at {zs : List Int} {k : Nat} (h : k < zs.length) : zs.drop k = zs.getD k 0 :: zs.drop (k + 1) := by
  rw [List.drop_eq_getElem_cons h, List.getD_eq_getElem?_getD, List.getElem?_eq_getElem h]; rfl
theorem val_drop (B : Int) (zs : List Int) (k : Nat) : val B (zs.drop k) = zs.getD k 0 + B * val B (zs.drop (k + 1)) := by
  by_cases h : k < zs.length
  · rw [drop_at h, val]
  · rw [List.drop_eq_nil_of_le (by omega), List.drop_eq_nil_of_le (by omega), List.getD_eq_getElem?_getD, List.getElem?_eq_none (by omega)]
    simp [val]
theorem val_snoc_zero (B : Int) (zs : List Int) : val B (zs ++ [0]) = val B zs := by rw [val_append]; simp [val]
end Go.Proofs.Ytnlgophgglgneaa
namespace Go.Proofs.Ytnlgophgglgneaa
open Go.RowKit

theorem top_take {zs : List Int} {m : Nat} (hm : m < zs.length) (h : zs.getD m 0 ≠ 0) : Top (zs.take (m + 1)) := by
  rw [take_snoc hm]
  unfold Top
  rw [List.getLast?_append, List.getLast?_singleton]
  simpa using h
theorem val_take_zero {B : Int} {zs : List Int} {m : Nat} (hm : m < zs.length) (h : zs.getD m 0 = 0) : val B (zs.take (m + 1)) = val B (zs.take m) := by
  rw [take_snoc hm, h, val_snoc_zero]

theorem cut_at (B : Int) (a : Option Addr) (len cap : Nat) (zs : List Int) (w : World) (h : Row .i64 w a len cap zs) (hd : Digs B zs) :
    Calls Try.prog 99 #[.slice a len cap] w (Cuts .i64 w a cap fun r => Is B r (val B zs)) := by
  have H := Lib.hid h
  have HD := Lib.hid hd
  have ⟨c1, c2⟩ := h.cap_le
  clear h hd
  go_enter Try.func99, Try.ntmps99
  go_wp2
  go_loop [0] (fun v => ∃ m : Nat, m ≤ len ∧ v = .slice a m cap ∧ val B (zs.take m) = val B zs) (fun v => lenOf v)
  case atStart => exact ⟨len, Nat.le_refl _, rfl, by rw [List.take_of_length_le (by rw [H.out.len]; exact Nat.le_refl _)]⟩
  case round =>
    obtain ⟨m, hm, rfl, hv⟩ := hrel
    have HV := Lib.hid hv
    clear hv
    cases m with
    | zero =>
      go_wp2
      go_ret
      exact ⟨_, _, rfl, (H.out.take (Nat.zero_le _)), ⟨HD.out.take 0, by simp [Top], HV.out⟩, rfl⟩
    | succ m =>
      obtain ⟨b, off, rfl, hc⟩ := H.out.cell (show m < len by omega)
      obtain ⟨z, hz⟩ : ∃ z, zs.getD m 0 = z := ⟨_, rfl⟩
      rw [hz] at hc
      have HZ := Lib.hid hz
      clear hz
      by_cases g : z = 0
      · subst g
        go_wp2
        go_round
        case rel => exact ⟨m, by omega, rfl, by rw [← HV.out, val_take_zero (by rw [H.out.len]; omega) HZ.out]⟩
        case measure => simp [lenOf]
      · have g' : (z == 0) = false := by simp [g]
        go_wp2
        go_ret
        exact ⟨_, _, rfl, (H.out.take hm), ⟨HD.out.take _, top_take (by rw [H.out.len]; omega) (by rw [HZ.out]; exact g), HV.out⟩, rfl⟩

theorem cut_any (B : Int) (a : Option Addr) (len cap : Nat) (zs : List Int) (w : World) (h : Row .i64 w a len cap zs) (hd : Digs B zs) :
    Calls Try.prog 99 #[.slice a len cap] w (Shows .i64 w fun r => Is B r (val B zs)) :=
  (cut_at B a len cap zs w h hd).mono fun _ _ ⟨l, r, he, hr, hp, hw⟩ => ⟨a, l, cap, r, he, hr, hp, hw⟩

theorem getD_out {zs : List Int} {i : Nat} (h : zs.length ≤ i) : zs.getD i 0 = 0 := by
  rw [List.getD_eq_getElem?_getD, List.getElem?_eq_none h]; rfl
theorem Try.infoInt : (Try.prog.info? 3).map (fun i => (i.zero, i.size, i.bytes)) = some (some (.int .i64 0), 1, 8) := by kernel_rfl

/-- one digit more of a sum -/
theorem sum_step {B P c x y d q A' B' : Int} (h : c + x + y = d + B * q) : P * d + P * B * (q + A' + B') = P * (c + (x + B * A') + (y + B * B')) := by
  rw [Int.mul_assoc, ← Int.mul_add]
  congr 1
  rw [Int.mul_add, Int.mul_add]
  omega
theorem sum_next {ds za zb : List Int} {i : Nat} {c d q T : Int} (hl : ds.length = i) (h : c + za.getD i 0 + zb.getD i 0 = d + 10 * q)
    (hT : val 10 ds + 10 ^ i * (c + val 10 (za.drop i) + val 10 (zb.drop i)) = T) :
    val 10 (ds ++ [d]) + 10 ^ (i + 1) * (q + val 10 (za.drop (i + 1)) + val 10 (zb.drop (i + 1))) = T := by
  rw [val_append, hl, Int.pow_succ]
  have := sum_step (P := 10 ^ i) (A' := val 10 (za.drop (i + 1))) (B' := val 10 (zb.drop (i + 1))) h
  rw [← val_drop, ← val_drop] at this
  have e : val 10 [d] = d := by simp [val]
  rw [e]
  omega

theorem add_any (a : Option Addr) (la ca : Nat) (za : List Int) (b : Option Addr) (lb cb : Nat) (zb : List Int) (w : World)
    (ha : Row .i64 w a la ca za) (da : Digs 10 za) (hb : Row .i64 w b lb cb zb) (db : Digs 10 zb) (la6 : la ≤ 1000000) (lb6 : lb ≤ 1000000) :
    Calls Try.prog 78 #[.slice a la ca, .slice b lb cb] w (Gives .i64 w fun r => Is 10 r (val 10 za + val 10 zb)) := by
  obtain ⟨i0, hi, hz0, hz1, hz2⟩ := info_parts Try.infoInt
  have HA := Lib.hid ha
  have HB := Lib.hid hb
  have DA := Lib.hid da
  have DB := Lib.hid db
  have LA := Lib.hid ha.len
  have LB := Lib.hid hb.len
  clear ha hb da db
  obtain ⟨T, hT⟩ : ∃ T, val 10 za + val 10 zb = T := ⟨_, rfl⟩
  rw [hT]
  have HT := Lib.hid hT
  clear hT
  go_enter Try.func78, Try.ntmps78
  go_wp2
  go_loopw [5, 6, 7] (fun v u j wr => ∃ (i : Nat) (c : Int) (ds : List Int), j = .int .i64 i ∧ u = .int .i64 c ∧ 0 ≤ c ∧ c ≤ 1 ∧ (i : Int) + c ≤ la + lb + 1 ∧ wr.ownsRow w.heap.size 3 1 v i (ds.map (Value.int .i64)) ∧ Digs 10 ds ∧ ds.length = i ∧ val 10 ds + 10 ^ i * (c + val 10 (za.drop i) + val 10 (zb.drop i)) = T ∧ Below w.heap.size w wr) (fun _ u j _ => 2 * (la - (intOf j).toNat) + 2 * (lb - (intOf j).toNat) + (intOf u).toNat)
  case atStart => exact ⟨0, 0, [], rfl, rfl, by omega, by omega, by omega, World.ownsRow_nil _ _ _ _, Digs.nil, rfl, by have := HT.out; simp [val]; exact this, Below.refl _ _⟩
  case round =>
    obtain ⟨i, c, ds, rfl, rfl, c0, c1, hic, hown, hdg, hdl, hval, hbel⟩ := hrel
    have HO := Lib.hid hown
    have HDg := Lib.hid hdg
    have HDl := Lib.hid hdl
    have HVal := Lib.hid hval
    have HW := Lib.hid hbel
    have hsz := hbel.size
    clear hown hdg hdl hval hbel
    by_cases go : (i < la ∨ i < lb) ∨ 0 < c
    · obtain ⟨x1, x2⟩ := DA.out.getD (by omega) i
      obtain ⟨y1, y2⟩ := DB.out.getD (by omega) i
      obtain ⟨x, hx⟩ : ∃ x, za.getD i 0 = x := ⟨_, rfl⟩
      obtain ⟨y, hy⟩ : ∃ y, zb.getD i 0 = y := ⟨_, rfl⟩
      rw [hx] at x1 x2
      rw [hy] at y1 y2
      by_cases p : i < la
      · by_cases q : i < lb
        · obtain ⟨ba, oa, rfl, hca⟩ := (HA.out.below HW.out).cell p
          rw [hx] at hca
          have bp : decide (i < la) = true := by simp; omega
          obtain ⟨bb, ob, rfl, hcb⟩ := (HB.out.below HW.out).cell q
          rw [hy] at hcb
          have bq : decide (i < lb) = true := by simp; omega
          have HN := Lib.hid (sum_next (d := (c + x + y) % 10) (q := (c + x + y) / 10) HDl.out (by rw [hx, hy]; omega) HVal.out)
          clear hx hy
          go_wp2_with (at_builtin; refine wpList_append_own _ rfl _ _ 109 rfl w.heap.size 3 i0 (.int .i64 0) 1 8 Try.underlying109 hi hz0 hz1 hz2 rfl (by decide) _ _ _ rfl (HO.out.alloc _) ⟨wr.heap.size, 0, none⟩ 1 1 [.int .i64 ((c + x + y) % 10)] rfl rfl (one_new _ _ _) (one_cell _ _) (by unfold maxLen; omega) (by omega) (by simp; omega) ?_; intro v2 w2 hown2 hgrow2 hnil2; have HO2 := Lib.hid hown2; have HG2 := Lib.hid hgrow2; clear hown2 hgrow2 hnil2)
          go_roundw
          case rel => exact ⟨i + 1, (c + x + y) / 10, ds ++ [(c + x + y) % 10], by go_num, rfl, by omega, by omega, by omega, owns_snoc HO2.out, HDg.out.snoc ⟨by omega, by omega⟩, by simp [HDl.out], HN.out, below_append HW.out HO.out HG2.out⟩
          case measure => simp [intOf]; omega
        · obtain ⟨ba, oa, rfl, hca⟩ := (HA.out.below HW.out).cell p
          rw [hx] at hca
          have bp : decide (i < la) = true := by simp; omega
          have y0 : y = 0 := by rw [← hy]; exact getD_out (by rw [LB.out]; omega)
          subst y0
          have bq : decide (i < lb) = false := by simp; omega
          have HN := Lib.hid (sum_next (d := (c + x) % 10) (q := (c + x) / 10) HDl.out (by rw [hx, hy]; omega) HVal.out)
          clear hx hy
          go_wp2_with (at_builtin; refine wpList_append_own _ rfl _ _ 109 rfl w.heap.size 3 i0 (.int .i64 0) 1 8 Try.underlying109 hi hz0 hz1 hz2 rfl (by decide) _ _ _ rfl (HO.out.alloc _) ⟨wr.heap.size, 0, none⟩ 1 1 [.int .i64 ((c + x) % 10)] rfl rfl (one_new _ _ _) (one_cell _ _) (by unfold maxLen; omega) (by omega) (by simp; omega) ?_; intro v2 w2 hown2 hgrow2 hnil2; have HO2 := Lib.hid hown2; have HG2 := Lib.hid hgrow2; clear hown2 hgrow2 hnil2)
          go_roundw
          case rel => exact ⟨i + 1, (c + x) / 10, ds ++ [(c + x) % 10], by go_num, rfl, by omega, by omega, by omega, owns_snoc HO2.out, HDg.out.snoc ⟨by omega, by omega⟩, by simp [HDl.out], HN.out, below_append HW.out HO.out HG2.out⟩
          case measure => simp [intOf]; omega
      · by_cases q : i < lb
        · have x0 : x = 0 := by rw [← hx]; exact getD_out (by rw [LA.out]; omega)
          subst x0
          have bp : decide (i < la) = false := by simp; omega
          obtain ⟨bb, ob, rfl, hcb⟩ := (HB.out.below HW.out).cell q
          rw [hy] at hcb
          have bq : decide (i < lb) = true := by simp; omega
          have HN := Lib.hid (sum_next (d := (c + y) % 10) (q := (c + y) / 10) HDl.out (by rw [hx, hy]; omega) HVal.out)
          clear hx hy
          go_wp2_with (at_builtin; refine wpList_append_own _ rfl _ _ 109 rfl w.heap.size 3 i0 (.int .i64 0) 1 8 Try.underlying109 hi hz0 hz1 hz2 rfl (by decide) _ _ _ rfl (HO.out.alloc _) ⟨wr.heap.size, 0, none⟩ 1 1 [.int .i64 ((c + y) % 10)] rfl rfl (one_new _ _ _) (one_cell _ _) (by unfold maxLen; omega) (by omega) (by simp; omega) ?_; intro v2 w2 hown2 hgrow2 hnil2; have HO2 := Lib.hid hown2; have HG2 := Lib.hid hgrow2; clear hown2 hgrow2 hnil2)
          go_roundw
          case rel => exact ⟨i + 1, (c + y) / 10, ds ++ [(c + y) % 10], by go_num, rfl, by omega, by omega, by omega, owns_snoc HO2.out, HDg.out.snoc ⟨by omega, by omega⟩, by simp [HDl.out], HN.out, below_append HW.out HO.out HG2.out⟩
          case measure => simp [intOf]; omega
        · have x0 : x = 0 := by rw [← hx]; exact getD_out (by rw [LA.out]; omega)
          subst x0
          have bp : decide (i < la) = false := by simp; omega
          have y0 : y = 0 := by rw [← hy]; exact getD_out (by rw [LB.out]; omega)
          subst y0
          have bq : decide (i < lb) = false := by simp; omega
          have bc : decide (0 < c) = true := by simp; omega
          have HN := Lib.hid (sum_next (d := (c) % 10) (q := (c) / 10) HDl.out (by rw [hx, hy]; omega) HVal.out)
          clear hx hy
          go_wp2_with (at_builtin; refine wpList_append_own _ rfl _ _ 109 rfl w.heap.size 3 i0 (.int .i64 0) 1 8 Try.underlying109 hi hz0 hz1 hz2 rfl (by decide) _ _ _ rfl (HO.out.alloc _) ⟨wr.heap.size, 0, none⟩ 1 1 [.int .i64 ((c) % 10)] rfl rfl (one_new _ _ _) (one_cell _ _) (by unfold maxLen; omega) (by omega) (by simp; omega) ?_; intro v2 w2 hown2 hgrow2 hnil2; have HO2 := Lib.hid hown2; have HG2 := Lib.hid hgrow2; clear hown2 hgrow2 hnil2)
          go_roundw
          case rel => exact ⟨i + 1, (c) / 10, ds ++ [(c) % 10], by go_num, rfl, by omega, by omega, by omega, owns_snoc HO2.out, HDg.out.snoc ⟨by omega, by omega⟩, by simp [HDl.out], HN.out, below_append HW.out HO.out HG2.out⟩
          case measure => simp [intOf]; omega
    · have bp : decide (i < la) = false := by simp; omega
      have bq : decide (i < lb) = false := by simp; omega
      have bc : decide (0 < c) = false := by simp; omega
      obtain rfl : c = 0 := by omega
      have hv : val 10 ds = T := by
        have := HVal.out
        rw [List.drop_eq_nil_of_le (by rw [LA.out]; omega), List.drop_eq_nil_of_le (by rw [LB.out]; omega)] at this
        simpa [val] using this
      obtain ⟨a', cap', rfl, hrow, hfr⟩ := row_of_owns HO.out
      have HF := Lib.hid hfr
      clear hfr
      have HR := Lib.hid hrow
      have HV := Lib.hid hv
      clear hrow hv
      go_wp2_with (go_at_call 99; refine (cut_at 10 _ _ _ ds _ HR.out HDg.out).mono ?_; rintro e w' ⟨l2, zs2, rfl, hr2, hp2, rfl⟩; have HR2 := Lib.hid hr2; have HP2 := Lib.hid hp2; clear hr2 hp2)
      go_ret
      exact ⟨_, _, _, _, rfl, HR2.out, by rw [← HV.out]; exact HP2.out, HW.out, HF.out⟩
end Go.Proofs.Ytnlgophgglgneaa
namespace Go.Proofs.Ytnlgophgglgneaa
open Go.RowKit

theorem times_step {B P k c x d q A' : Int} (h : c + x * k = d + B * q) : P * d + P * B * (q + k * A') = P * (c + k * (x + B * A')) := by
  rw [Int.mul_assoc, ← Int.mul_add]
  congr 1
  have e : k * (x + B * A') = x * k + B * (k * A') := by rw [Int.mul_add, Int.mul_comm k x, Int.mul_left_comm]
  rw [Int.mul_add, e]
  omega
theorem times_next {ds za : List Int} {i : Nat} {k c d q T : Int} (hl : ds.length = i) (h : c + za.getD i 0 * k = d + 10 * q)
    (hT : val 10 ds + 10 ^ i * (c + k * val 10 (za.drop i)) = T) :
    val 10 (ds ++ [d]) + 10 ^ (i + 1) * (q + k * val 10 (za.drop (i + 1))) = T := by
  rw [val_append, hl, Int.pow_succ]
  have := times_step (P := 10 ^ i) (A' := val 10 (za.drop (i + 1))) h
  rw [← val_drop] at this
  have e : val 10 [d] = d := by simp [val]
  rw [e]
  omega

theorem times_any (a : Option Addr) (la ca : Nat) (za : List Int) (k : Int) (w : World)
    (ha : Row .i64 w a la ca za) (da : Digs 10 za) (la6 : la ≤ 1000000) (k0 : 0 ≤ k) (k1 : k ≤ 4294967296) :
    Calls Try.prog 96 #[.slice a la ca, .int .i64 k] w (Gives .i64 w fun r => Is 10 r (k * val 10 za)) := by
  obtain ⟨i0, hi, hz0, hz1, hz2⟩ := info_parts Try.infoInt
  have HA := Lib.hid ha
  have DA := Lib.hid da
  have LA := Lib.hid ha.len
  clear ha da
  obtain ⟨T, hT⟩ : ∃ T, k * val 10 za = T := ⟨_, rfl⟩
  rw [hT]
  have HT := Lib.hid hT
  clear hT
  go_enter Try.func96, Try.ntmps96
  go_wp2
  go_loopw [5, 6, 7] (fun v u j wr => ∃ (i : Nat) (c : Int) (ds : List Int), j = .int .i64 i ∧ u = .int .i64 c ∧ 0 ≤ c ∧ c ≤ k ∧ (i : Int) + c ≤ la + 4294967296 ∧ wr.ownsRow w.heap.size 3 1 v i (ds.map (Value.int .i64)) ∧ Digs 10 ds ∧ ds.length = i ∧ val 10 ds + 10 ^ i * (c + k * val 10 (za.drop i)) = T ∧ Below w.heap.size w wr) (fun _ u j _ => 4294967297 * (la - (intOf j).toNat) + (intOf u).toNat)
  case atStart => exact ⟨0, 0, [], rfl, rfl, by omega, by omega, by omega, World.ownsRow_nil _ _ _ _, Digs.nil, rfl, by have := HT.out; simp [val]; exact this, Below.refl _ _⟩
  case round =>
    obtain ⟨i, c, ds, rfl, rfl, c0, c1, hic, hown, hdg, hdl, hval, hbel⟩ := hrel
    have HO := Lib.hid hown
    have HDg := Lib.hid hdg
    have HDl := Lib.hid hdl
    have HVal := Lib.hid hval
    have HW := Lib.hid hbel
    have hsz := hbel.size
    clear hown hdg hdl hval hbel
    by_cases p : i < la
    · obtain ⟨x1, x2⟩ := DA.out.getD (by omega) i
      obtain ⟨x, hx⟩ : ∃ x, za.getD i 0 = x := ⟨_, rfl⟩
      rw [hx] at x1 x2
      obtain ⟨ba, oa, rfl, hca⟩ := (HA.out.below HW.out).cell p
      rw [hx] at hca
      have bp : decide (i < la) = true := by simp; omega
      have m1 : 0 ≤ x * k := Int.mul_nonneg x1 k0
      have m2 : x * k ≤ 9 * k := Int.mul_le_mul_of_nonneg_right (by omega) k0
      have HN := Lib.hid (times_next (k := k) (d := (c + x * k) % 10) (q := (c + x * k) / 10) HDl.out (by rw [hx]; omega) HVal.out)
      clear hx
      go_wp2_with (at_builtin; refine wpList_append_own _ rfl _ _ 109 rfl w.heap.size 3 i0 (.int .i64 0) 1 8 Try.underlying109 hi hz0 hz1 hz2 rfl (by decide) _ _ _ rfl (HO.out.alloc _) ⟨wr.heap.size, 0, none⟩ 1 1 [.int .i64 ((c + x * k) % 10)] rfl rfl (one_new _ _ _) (one_cell _ _) (by unfold maxLen; omega) (by omega) (by simp; omega) ?_; intro v2 w2 hown2 hgrow2 hnil2; have HO2 := Lib.hid hown2; have HG2 := Lib.hid hgrow2; clear hown2 hgrow2 hnil2)
      go_roundw
      case rel => exact ⟨i + 1, (c + x * k) / 10, ds ++ [(c + x * k) % 10], by go_num, rfl, by omega, by omega, by omega, owns_snoc HO2.out, HDg.out.snoc ⟨by omega, by omega⟩, by simp [HDl.out], HN.out, below_append HW.out HO.out HG2.out⟩
      case measure => simp [intOf]; omega
    · have bp : decide (i < la) = false := by simp; omega
      by_cases g : 0 < c
      · have bc : decide (0 < c) = true := by simp; omega
        have HN := Lib.hid (times_next (k := k) (za := za) (d := c % 10) (q := c / 10) HDl.out (by rw [getD_out (by rw [LA.out]; omega)]; omega) HVal.out)
        go_wp2_with (at_builtin; refine wpList_append_own _ rfl _ _ 109 rfl w.heap.size 3 i0 (.int .i64 0) 1 8 Try.underlying109 hi hz0 hz1 hz2 rfl (by decide) _ _ _ rfl (HO.out.alloc _) ⟨wr.heap.size, 0, none⟩ 1 1 [.int .i64 (c % 10)] rfl rfl (one_new _ _ _) (one_cell _ _) (by unfold maxLen; omega) (by omega) (by simp; omega) ?_; intro v2 w2 hown2 hgrow2 hnil2; have HO2 := Lib.hid hown2; have HG2 := Lib.hid hgrow2; clear hown2 hgrow2 hnil2)
        go_roundw
        case rel => exact ⟨i + 1, c / 10, ds ++ [c % 10], by go_num, rfl, by omega, by omega, by omega, owns_snoc HO2.out, HDg.out.snoc ⟨by omega, by omega⟩, by simp [HDl.out], HN.out, below_append HW.out HO.out HG2.out⟩
        case measure => simp [intOf]; omega
      · have bc : decide (0 < c) = false := by simp; omega
        obtain rfl : c = 0 := by omega
        have hv : val 10 ds = T := by
          have := HVal.out
          rw [List.drop_eq_nil_of_le (by rw [LA.out]; omega)] at this
          simpa [val] using this
        obtain ⟨a', cap', rfl, hrow, hfr⟩ := row_of_owns HO.out
        have HF := Lib.hid hfr
        clear hfr
        have HR := Lib.hid hrow
        have HV := Lib.hid hv
        clear hrow hv
        go_wp2_with (go_at_call 99; refine (cut_at 10 _ _ _ ds _ HR.out HDg.out).mono ?_; rintro e w' ⟨l2, zs2, rfl, hr2, hp2, rfl⟩; have HR2 := Lib.hid hr2; have HP2 := Lib.hid hp2; clear hr2 hp2)
        go_ret
        exact ⟨_, _, _, _, rfl, HR2.out, by rw [← HV.out]; exact HP2.out, HW.out, HF.out⟩

theorem top_snoc {ds : List Int} {d : Int} (h : d ≠ 0) : Top (ds ++ [d]) := by
  unfold Top; rw [List.getLast?_append, List.getLast?_singleton]; simpa using h
theorem small_next {B : Int} {ds : List Int} {i : Nat} {c d q T : Int} (hl : ds.length = i) (h : c = d + B * q) (hT : val B ds + B ^ i * c = T) : val B (ds ++ [d]) + B ^ (i + 1) * q = T := by
  have e : val B [d] = d := by simp [val]
  rw [val_append, hl, Int.pow_succ, e, Int.mul_assoc, ← hT, h, Int.mul_add]
  omega

theorem small_any (n : Int) (w : World) (n0 : 0 ≤ n) (n1 : n ≤ 4294967296) :
    Calls Try.prog 97 #[.int .i64 n] w (Gives .i64 w fun r => Is 10 r n) := by
  obtain ⟨i0, hi, hz0, hz1, hz2⟩ := info_parts Try.infoInt
  go_enter Try.func97, Try.ntmps97
  go_wp2
  go_loopw [0, 3] (fun u v wr => ∃ (i : Nat) (c : Int) (ds : List Int), u = .int .i64 c ∧ 0 ≤ c ∧ (i : Int) + c ≤ 4294967296 ∧ wr.ownsRow w.heap.size 3 1 v i (ds.map (Value.int .i64)) ∧ Digs 10 ds ∧ ds.length = i ∧ val 10 ds + 10 ^ i * c = n ∧ (c = 0 → Top ds) ∧ Below w.heap.size w wr) (fun u _ _ => (intOf u).toNat)
  case atStart => exact ⟨0, n, [], rfl, by omega, by omega, World.ownsRow_nil _ _ _ _, Digs.nil, rfl, by simp [val], (fun _ => by simp [Top]), Below.refl _ _⟩
  case round =>
    obtain ⟨i, c, ds, rfl, c0, hic, hown, hdg, hdl, hval, htop, hbel⟩ := hrel
    have HO := Lib.hid hown
    have HDg := Lib.hid hdg
    have HDl := Lib.hid hdl
    have HVal := Lib.hid hval
    have HTop := Lib.hid htop
    have HW := Lib.hid hbel
    have hsz := hbel.size
    clear hown hdg hdl hval htop hbel
    by_cases g : 0 < c
    · have HN := Lib.hid (small_next (B := 10) (d := c % 10) (q := c / 10) HDl.out (by omega) HVal.out)
      go_wp2_with (at_builtin; refine wpList_append_own _ rfl _ _ 109 rfl w.heap.size 3 i0 (.int .i64 0) 1 8 Try.underlying109 hi hz0 hz1 hz2 rfl (by decide) _ _ _ rfl (HO.out.alloc _) ⟨wr.heap.size, 0, none⟩ 1 1 [.int .i64 (c % 10)] rfl rfl (one_new _ _ _) (one_cell _ _) (by unfold maxLen; omega) (by omega) (by simp; omega) ?_; intro v2 w2 hown2 hgrow2 hnil2; have HO2 := Lib.hid hown2; have HG2 := Lib.hid hgrow2; clear hown2 hgrow2 hnil2)
      go_roundw
      case rel => exact ⟨i + 1, c / 10, ds ++ [c % 10], rfl, by omega, by omega, owns_snoc HO2.out, HDg.out.snoc ⟨by omega, by omega⟩, by simp [HDl.out], HN.out, (fun e => top_snoc (by omega)), below_append HW.out HO.out HG2.out⟩
      case measure => simp [intOf]; omega
    · obtain rfl : c = 0 := by omega
      have hv : val 10 ds = n := by have := HVal.out; simpa using this
      obtain ⟨a', cap', rfl, hrow, hfr⟩ := row_of_owns HO.out
      have HF := Lib.hid hfr
      clear hfr
      have HR := Lib.hid hrow
      have HV := Lib.hid hv
      have HT := Lib.hid (HTop.out rfl)
      clear hrow hv HTop
      go_wp2
      go_ret
      exact ⟨_, _, _, _, rfl, HR.out, ⟨HDg.out, HT.out, HV.out⟩, HW.out, HF.out⟩

theorem sub_step {B P c x y d c' A' B' : Int} (h : x - y - c = d - B * c') : P * d + P * B * (A' - B' - c') = P * ((x + B * A') - (y + B * B') - c) := by
  rw [Int.mul_assoc, ← Int.mul_add]
  congr 1
  rw [Int.mul_sub, Int.mul_sub]
  omega
theorem sub_next {ds za zb : List Int} {i : Nat} {c d c' T : Int} (hl : ds.length = i) (h : za.getD i 0 - zb.getD i 0 - c = d - 10 * c')
    (hT : val 10 ds + 10 ^ i * (val 10 (za.drop i) - val 10 (zb.drop i) - c) = T) :
    val 10 (ds ++ [d]) + 10 ^ (i + 1) * (val 10 (za.drop (i + 1)) - val 10 (zb.drop (i + 1)) - c') = T := by
  rw [val_append, hl, Int.pow_succ]
  have := sub_step (P := 10 ^ i) (A' := val 10 (za.drop (i + 1))) (B' := val 10 (zb.drop (i + 1))) h
  rw [← val_drop, ← val_drop] at this
  have e : val 10 [d] = d := by simp [val]
  rw [e]
  omega
theorem sub_end {ds : List Int} {c T : Int} (hd : Digs 10 ds) (c0 : 0 ≤ c) (hT : 0 ≤ T) (h : val 10 ds + 10 ^ ds.length * (0 - 0 - c) = T) : val 10 ds = T := by
  have h1 := val_lt (by omega) hd
  by_cases g : c = 0
  · subst g; simpa using h
  · exfalso
    have h2 := ipow_pos (B := 10) (by omega) ds.length
    have h3 : (10 : Int) ^ ds.length * 1 ≤ 10 ^ ds.length * c := Int.mul_le_mul_of_nonneg_left (by omega) (by omega)
    have e : (10 : Int) ^ ds.length * (0 - 0 - c) = -(10 ^ ds.length * c) := by
      rw [show (0 - 0 - c : Int) = -c by omega, Int.mul_neg]
    rw [e] at h
    omega

end Go.Proofs.Ytnlgophgglgneaa
namespace Go.Proofs.Ytnlgophgglgneaa
open Go.RowKit

def cmpI (m n : Int) : Int := if m < n then -1 else if n < m then 1 else 0
theorem cmpI_lt {m n : Int} (h : m < n) : cmpI m n = -1 := if_pos h
theorem cmpI_gt {m n : Int} (h : n < m) : cmpI m n = 1 := by unfold cmpI; rw [if_neg (by omega), if_pos h]
theorem cmpI_eq {m n : Int} (h : m = n) : cmpI m n = 0 := by unfold cmpI; rw [if_neg (by omega), if_neg (by omega)]

theorem len_lt {B : Int} (hB : 1 < B) {za zb : List Int} {m n : Int} (ha : Is B za m) (hb : Is B zb n) (h : za.length < zb.length) : m < n := by
  have h1 := val_lt (by omega) ha.1
  rw [ha.2.2] at h1
  have h2 := Is.pow_le (by omega) hb (by intro e; rw [e] at h; simp at h)
  have h3 := ipow_le (B := B) (by omega) (show za.length ≤ zb.length - 1 by omega)
  omega
theorem val_split (B : Int) (zs : List Int) {i : Nat} (h : i ≤ zs.length) : val B zs = val B (zs.take i) + B ^ i * val B (zs.drop i) := by
  have := val_append B (zs.take i) (zs.drop i)
  rw [List.take_append_drop, List.length_take, Nat.min_eq_left h] at this
  exact this
theorem dig_lt {B : Int} (hB : 0 < B) {za zb : List Int} {i : Nat} (da : Digs B za) (db : Digs B zb) (ha : i < za.length) (hb : i < zb.length)
    (hd : val B (za.drop (i + 1)) = val B (zb.drop (i + 1))) (h : za.getD i 0 < zb.getD i 0) : val B za < val B zb := by
  rw [val_split B za (Nat.le_of_lt ha), val_split B zb (Nat.le_of_lt hb), val_drop B za, val_drop B zb, hd]
  have h1 := val_lt hB (da.take i)
  rw [List.length_take, Nat.min_eq_left (Nat.le_of_lt ha)] at h1
  have h2 := val_nonneg hB (db.take i)
  have h3 := ipow_pos hB i
  have h4 : B ^ i * (za.getD i 0 + B * val B (zb.drop (i + 1)) + 1) ≤ B ^ i * (zb.getD i 0 + B * val B (zb.drop (i + 1))) := Int.mul_le_mul_of_nonneg_left (by omega) (by omega)
  rw [Int.mul_add _ _ 1] at h4
  omega

theorem cmp_any (a : Option Addr) (la ca : Nat) (za : List Int) (m : Int) (b : Option Addr) (lb cb : Nat) (zb : List Int) (n : Int) (w : World)
    (ha : Row .i64 w a la ca za) (ia : Is 10 za m) (hb : Row .i64 w b lb cb zb) (ib : Is 10 zb n) :
    Calls Try.prog 74 #[.slice a la ca, .slice b lb cb] w fun e w' => e = .returned (.int .i64 (cmpI m n)) ∧ ∃ k, w' = w.drewN k := by
  have ⟨c1, c2⟩ := ha.cap_le
  have ⟨c3, c4⟩ := hb.cap_le
  rcases Nat.lt_trichotomy la lb with h | h | h
  · have e := Lib.hid (cmpI_lt (len_lt (by omega) ia ib (by rw [ha.len, hb.len]; exact h)))
    have b1 : ((la : Int) != (lb : Int)) = true := by simp; omega
    clear ha hb ia ib
    go_enter Try.func74, Try.ntmps74
    go_wp2
    go_ret
    exact ⟨ret_one e.out.symm, 0, rfl⟩
  · subst h
    have HA := Lib.hid ha
    have HB := Lib.hid hb
    have IA := Lib.hid ia
    have IB := Lib.hid ib
    clear ha hb ia ib
    go_enter Try.func74, Try.ntmps74
    go_wp2
    go_loopw [5] (fun i wr => ∃ (c : Int) (j t : Nat), i = .int .i64 c ∧ c = j - 1 ∧ j ≤ la ∧ val 10 (za.drop j) = val 10 (zb.drop j) ∧ wr = w.drewN t) (fun i _ => (intOf i + 1).toNat)
    case atStart => exact ⟨_, la, 0, rfl, rfl, Nat.le_refl _, by rw [List.drop_eq_nil_of_le (by rw [HA.out.len]; omega), List.drop_eq_nil_of_le (by rw [HB.out.len]; omega)], rfl⟩
    case round =>
      obtain ⟨c, j, t, rfl, hcj, hj, hval, rfl⟩ := hrel
      have HV := Lib.hid hval
      clear hval
      cases j with
      | zero =>
        obtain rfl : c = -1 := by omega
        have e := Lib.hid (cmpI_eq (show m = n by rw [← IA.out.2.2, ← IB.out.2.2]; exact HV.out))
        clear hcj
        go_wp2
        go_ret
        exact ⟨ret_one e.out.symm, _, rfl⟩
      | succ i =>
        obtain rfl : c = (i : Int) := by omega
        clear hcj
        obtain ⟨ba, oa, rfl, hca⟩ := HA.out.cell (show i < la by omega)
        obtain ⟨bb, ob, rfl, hcb⟩ := HB.out.cell (show i < la by omega)
        obtain ⟨x, hx⟩ : ∃ x, za.getD i 0 = x := ⟨_, rfl⟩
        obtain ⟨y, hy⟩ : ∃ y, zb.getD i 0 = y := ⟨_, rfl⟩
        have i1 : (i : Int) < (la : Int) := by omega
        have i2 : 0 ≤ (i : Int) := by omega
        have va := IA.out.2.2
        have vb := IB.out.2.2
        rcases Int.lt_trichotomy x y with g | g | g
        · have e := Lib.hid (cmpI_lt (show m < n by rw [← va, ← vb]; exact dig_lt (by omega) IA.out.1 IB.out.1 (by rw [HA.out.len]; omega) (by rw [HB.out.len]; omega) HV.out (by rw [hx, hy]; exact g)))
          rw [hx] at hca
          rw [hy] at hcb
          clear hx hy va vb
          go_wp2
          go_quiet (fail)
          go_wp2
          go_ret
          refine ⟨ret_one e.out.symm, ?_⟩
          simp only [World.drewN_drewN]
          exact ⟨_, rfl⟩
        · subst g
          have e := Lib.hid (show val 10 (za.drop i) = val 10 (zb.drop i) by rw [val_drop, val_drop 10 zb, hx, hy, HV.out])
          rw [hx] at hca
          rw [hy] at hcb
          clear hx hy va vb
          go_wp2
          go_quiet (fail)
          go_wp2
          go_quiet (fail)
          go_wp2
          go_roundw
          case rel => exact ⟨_, i, _, rfl, rfl, by omega, e.out, rfl⟩
          case measure => simp [intOf] <;> omega
        · have e := Lib.hid (cmpI_gt (show n < m by rw [← va, ← vb]; exact dig_lt (by omega) IB.out.1 IA.out.1 (by rw [HB.out.len]; omega) (by rw [HA.out.len]; omega) HV.out.symm (by rw [hx, hy]; exact g)))
          rw [hx] at hca
          rw [hy] at hcb
          clear hx hy va vb
          go_wp2
          go_quiet (fail)
          go_wp2
          go_quiet (fail)
          go_wp2
          go_ret
          refine ⟨ret_one e.out.symm, ?_⟩
          simp only [World.drewN_drewN]
          exact ⟨_, rfl⟩
  · have e := Lib.hid (cmpI_gt (len_lt (by omega) ib ia (by rw [ha.len, hb.len]; exact h)))
    have b1 : ((la : Int) != (lb : Int)) = true := by simp; omega
    have b2 : decide (la < lb) = false := by simp; omega
    clear ha hb ia ib
    go_enter Try.func74, Try.ntmps74
    go_wp2
    go_ret
    exact ⟨ret_one e.out.symm, 0, rfl⟩

theorem take_eq_of {za zb : List Int} {i : Nat} (ha : i < za.length) (hb : i < zb.length) (h : za.take i = zb.take i) (e : za.getD i 0 = zb.getD i 0) : za.take (i + 1) = zb.take (i + 1) := by
  rw [take_snoc ha, take_snoc hb, h, e]

theorem top_of {zs : List Int} {m : Nat} (h : zs.length = m + 1) : Top zs ↔ zs.getD m 0 ≠ 0 := by
  have e : zs = zs.take m ++ [zs.getD m 0] := by
    rw [← take_snoc (by omega), List.take_of_length_le (by omega)]
  have e2 : (zs.take m ++ [zs.getD m 0]).getLast? = some (zs.getD m 0) := by
    rw [List.getLast?_append, List.getLast?_singleton]; rfl
  rw [← e] at e2
  unfold Top
  rw [e2]
  simp

theorem Try.infoU32 : (Try.prog.info? 107).map (fun i => (i.zero, i.size, i.bytes)) = some (some (.int .u32 0), 1, 4) := by kernel_rfl

theorem of_any (n : Int) (w : World) (n0 : 0 ≤ n) (n1 : n ≤ 18446744073709551615) :
    Calls Try.prog 55 #[.int .u64 n] w (Gives .u32 w fun r => Is 4294967296 r n) := by
  obtain ⟨i0, hi, hz0, hz1, hz2⟩ := info_parts Try.infoU32
  go_enter Try.func55, Try.ntmps55
  go_wp2
  go_loopw [0, 3] (fun u v wr => ∃ (i : Nat) (c : Int) (ds : List Int), u = .int .u64 c ∧ 0 ≤ c ∧ c ≤ 18446744073709551615 ∧ (c = 0 ∨ i ≤ 1) ∧ (i ≤ 2) ∧ (i = 1 → c < 4294967296) ∧ wr.ownsRow w.heap.size 107 1 v i (ds.map (Value.int .u32)) ∧ Digs 4294967296 ds ∧ ds.length = i ∧ val 4294967296 ds + 4294967296 ^ i * c = n ∧ (c = 0 → Top ds) ∧ Below w.heap.size w wr) (fun u _ _ => (intOf u).toNat)
  case atStart => exact ⟨0, n, [], rfl, by omega, by omega, by omega, by omega, by omega, World.ownsRow_nil _ _ _ _, Digs.nil, rfl, by simp [val], (fun _ => by simp [Top]), Below.refl _ _⟩
  case round =>
    obtain ⟨i, c, ds, rfl, c0, c1, hic, hi2, hi1, hown, hdg, hdl, hval, htop, hbel⟩ := hrel
    have HO := Lib.hid hown
    have HDg := Lib.hid hdg
    have HDl := Lib.hid hdl
    have HVal := Lib.hid hval
    have HTop := Lib.hid htop
    have HW := Lib.hid hbel
    have HI := Lib.hid hi1
    have hsz := hbel.size
    clear hown hdg hdl hval htop hbel hi1
    by_cases g : 0 < c
    · have HN := Lib.hid (small_next (B := 4294967296) (d := c % 4294967296) (q := c / 4294967296) HDl.out (by omega) HVal.out)
      have hi1 : i ≤ 1 := by omega
      have Q := Lib.hid (show c / 4294967296 = 0 ∨ i + 1 ≤ 1 by have := HI.out; omega)
      clear hic
      go_wp2_with (at_builtin; refine wpList_append_own _ rfl _ _ 56 rfl w.heap.size 107 i0 (.int .u32 0) 1 4 Try.underlying56 hi hz0 hz1 hz2 rfl (by decide) _ _ _ rfl (HO.out.alloc _) ⟨wr.heap.size, 0, none⟩ 1 1 [.int .u32 (c % 4294967296)] rfl rfl (one_new _ _ _) (one_cell _ _) (by unfold maxLen; omega) (by omega) (by simp; omega) ?_; intro v2 w2 hown2 hgrow2 hnil2; have HO2 := Lib.hid hown2; have HG2 := Lib.hid hgrow2; clear hown2 hgrow2 hnil2)
      go_roundw
      case rel => exact ⟨i + 1, c / 4294967296, ds ++ [c % 4294967296], rfl, by omega, by omega, Q.out, by omega, by omega, owns_snoc HO2.out, HDg.out.snoc ⟨by omega, by omega⟩, by simp [HDl.out], HN.out, (fun e => top_snoc (by omega)), below_append HW.out HO.out HG2.out⟩
      case measure => simp [intOf]; omega
    · obtain rfl : c = 0 := by omega
      have hv : val 4294967296 ds = n := by have := HVal.out; simpa using this
      obtain ⟨a', cap', rfl, hrow, hfr⟩ := row_of_owns HO.out
      have HF := Lib.hid hfr
      clear hfr
      have HR := Lib.hid hrow
      have HV := Lib.hid hv
      have HT := Lib.hid (HTop.out rfl)
      clear hrow hv HTop
      go_wp2
      go_ret
      exact ⟨_, _, _, _, rfl, HR.out, ⟨HDg.out, HT.out, HV.out⟩, HW.out, HF.out⟩
end Go.Proofs.Ytnlgophgglgneaa
namespace Go.Proofs.Ytnlgophgglgneaa
open Go.RowKit

/-- a bound on how many digits a number has -/
theorem big_pow : (4294967296 : Int) ^ 102 ≤ 10 ^ 1100 := by decide +kernel
theorem Is.len6 {zs : List Int} {n : Int} (h : Is 10 zs n) (hn : n < 4294967296 ^ 102) : zs.length ≤ 1000000 := by
  have := h.len_le (L := 1100) (by omega) (by have := big_pow; omega)
  omega
theorem val_drop_lt {za : List Int} (da : Digs 4294967296 za) (hl : za.length ≤ 100) (j : Nat) : 0 ≤ val 4294967296 (za.drop j) ∧ val 4294967296 (za.drop j) < 4294967296 ^ 100 := by
  have h1 := val_lt (by omega) (da.drop j)
  have h2 := ipow_le (B := 4294967296) (by omega) (show (za.drop j).length ≤ 100 by rw [List.length_drop]; omega)
  exact ⟨val_nonneg (by omega) (da.drop j), by omega⟩
theorem pow_101 : (4294967296 : Int) ^ 101 = 4294967296 * 4294967296 ^ 100 := by decide +kernel
theorem pow_102 : (4294967296 : Int) ^ 102 = 4294967296 * 4294967296 ^ 101 := by decide +kernel
theorem len_of_from {zs : List Int} {v d : Int} (h : Is 10 zs (4294967296 * v + d)) (_ : 0 ≤ v) (v1 : v < 4294967296 ^ 100) (d1 : d < 4294967296) : zs.length ≤ 1000000 := by
  refine h.len6 ?_
  have := pow_101
  have := pow_102
  have := ipow_pos (B := 4294967296) (by omega) 100
  generalize (4294967296 : Int) ^ 100 = p at *
  generalize (4294967296 : Int) ^ 101 = q at *
  generalize (4294967296 : Int) ^ 102 = r at *
  omega

theorem from_any (a : Option Addr) (la ca : Nat) (za : List Int) (w : World) (ha : Row .u32 w a la ca za) (da : Digs 4294967296 za) (hl : la ≤ 100) :
    Calls Try.prog 75 #[.slice a la ca] w (Gives .i64 w fun r => Is 10 r (val 4294967296 za)) := by
  have HA := Lib.hid ha
  have DA := Lib.hid da
  have LA := Lib.hid ha.len
  clear ha da
  go_enter Try.func75, Try.ntmps75
  go_wp2
  go_loopw [3, 4] (fun v i wr => ∃ (c : Int) (j : Nat) (ao : Option Addr) (lo co : Nat) (zo : List Int), i = .int .i64 c ∧ c = j - 1 ∧ j ≤ la ∧ v = .slice ao lo co ∧ lo ≤ 1000000 ∧ Row .i64 wr ao lo co zo ∧ Is 10 zo (val 4294967296 (za.drop j)) ∧ Below w.heap.size w wr ∧ Fresh w.heap.size ao) (fun _ i _ => (intOf i + 1).toNat)
  case atStart => exact ⟨_, la, none, 0, 0, [], rfl, rfl, Nat.le_refl _, rfl, by omega, Row.nil, by rw [List.drop_eq_nil_of_le (by rw [LA.out]; omega)]; exact is_nil, Below.refl _ _, Fresh.none⟩
  case round =>
    obtain ⟨c, j, ao, lo, co, zo, rfl, hcj, hj, rfl, hlo, hro, hio, hbel, hfo⟩ := hrel
    have HFo := Lib.hid hfo
    clear hfo
    have HR := Lib.hid hro
    have HI := Lib.hid hio
    have HW := Lib.hid hbel
    clear hro hio hbel
    cases j with
    | zero =>
      obtain rfl : c = -1 := by omega
      clear hcj
      go_wp2
      go_ret
      exact ⟨_, _, _, _, rfl, HR.out, HI.out, HW.out, HFo.out⟩
    | succ i =>
      obtain rfl : c = (i : Int) := by omega
      clear hcj
      obtain ⟨ba, oa, rfl, hca⟩ := (HA.out.below HW.out).cell (show i < la by omega)
      obtain ⟨x1, x2⟩ := DA.out.getD (by omega) i
      obtain ⟨x, hx⟩ : ∃ x, za.getD i 0 = x := ⟨_, rfl⟩
      rw [hx] at hca x1 x2
      have HX := Lib.hid hx
      clear hx
      have i1 : (i : Int) < (la : Int) := by omega
      have i2 : 0 ≤ (i : Int) := by omega
      have wx : IntKind.i64.wrap x = x := IntWalk.i64_in _ (by omega)
      have hlt := World.block_lt_of_cell? _ _ hca
      have HV := Lib.hid (val_drop_lt DA.out (by rw [LA.out]; exact hl) (i + 1))
      have RD := Lib.hid HR.out.drew
      have LO := Lib.hid hlo
      have HC := Lib.hid hca
      go_wp2
      go_region_held3 (fun w' => w'.cell? ⟨ba, oa + i, none⟩ = some (.int .u32 x)) (first | go_keep | exact (HB3.out.cell (p := ⟨ba, oa + i, none⟩) (Nat.lt_of_lt_of_le (Nat.lt_of_lt_of_le hlt HBT.out.size) HBS.out.size)).trans ((HBS.out.cell (p := ⟨ba, oa + i, none⟩) (Nat.lt_of_lt_of_le hlt HBT.out.size)).trans ((HBT.out.cell (p := ⟨ba, oa + i, none⟩) hlt).trans HC.out)) | exact (HBS.out.cell (p := ⟨ba, oa + i, none⟩) (Nat.lt_of_lt_of_le hlt HBT.out.size)).trans ((HBT.out.cell (p := ⟨ba, oa + i, none⟩) hlt).trans HC.out) | exact (HBT.out.cell (p := ⟨ba, oa + i, none⟩) hlt).trans HC.out)
        (first
          | (go_at_call 96; refine (times_any _ _ _ zo _ _ RD.out HI.out.1 LO.out (by omega) (by omega)).mono ?_; rintro e wt ⟨at1, lt, ct, zt, rfl, hrt, hit, hbt, _⟩; have LT := Lib.hid (show lt ≤ 1000000 by rw [← hrt.len]; exact len_of_from (d := 0) (by rw [Int.add_zero, ← HI.out.2.2]; exact hit) HV.out.1 HV.out.2 (by omega)); have HRT := Lib.hid hrt; have HIT := Lib.hid hit; have HBT := Lib.hid hbt; clear hrt hit hbt)
          | (go_at_call 97; refine (small_any _ _ (by omega) (by omega)).mono ?_; rintro e ws ⟨as1, ls, cs, zs, rfl, hrs, his, hbs, _⟩; have LS := Lib.hid (show ls ≤ 1000000 by rw [← hrs.len]; exact len_of_from (v := 0) (d := x) (by rw [Int.mul_zero, Int.zero_add]; exact his) (by omega) (ipow_pos (by omega) 100) x2); have HRS := Lib.hid hrs; have HIS := Lib.hid his; have HBS := Lib.hid hbs; clear hrs his hbs)
          | (go_at_call 78; refine (add_any _ _ _ zt _ _ _ zs _ (HRT.out.below HBS.out) HIT.out.1 HRS.out HIS.out.1 LT.out LS.out).mono ?_; rintro e w3 ⟨a3, l3, c3, z3, rfl, hr3, hi3, hb3, hf3⟩; have HR3 := Lib.hid hr3; have HI3 := Lib.hid hi3; have HB3 := Lib.hid hb3; have HF3 := Lib.hid hf3; clear hr3 hi3 hb3 hf3))
      all_goals
        have hv3 : val 10 zt + val 10 zs = val 4294967296 (za.drop i) := by
          rw [HIT.out.2.2, HIS.out.2.2, val_drop, HX.out, HI.out.2.2]; omega
        have I3 := Lib.hid (hv3 ▸ HI3.out)
        have L3 := Lib.hid (show l3 ≤ 1000000 by rw [← HR3.out.len]; exact len_of_from (d := x) (by have := HI3.out; rw [HIT.out.2.2, HIS.out.2.2, HI.out.2.2] at this; exact this) HV.out.1 HV.out.2 x2)
        clear hv3
        go_wp2
        go_roundw
        case rel => exact ⟨_, i, a3, l3, c3, z3, rfl, rfl, by omega, rfl, L3.out, HR3.out, I3.out, below_next (below_next (below_next HW.out.drew HBT.out) HBS.out) HB3.out, HF3.out.mono (below_next (below_next HW.out.drew HBT.out) HBS.out).size⟩
        case measure => simp [intOf] <;> omega

theorem pow_600 : (10 : Int) ^ 600 * 10 ^ 600 = 10 ^ 1200 := by decide +kernel
theorem pow_1300 : (10 : Int) ^ 1200 * 10 + 10 ^ 1200 ≤ 10 ^ 1300 := by decide +kernel
theorem prod_lt {m v : Int} (m0 : 0 ≤ m) (m1 : m < 10 ^ 600) (v0 : 0 ≤ v) (v1 : v < 10 ^ 600) : 0 ≤ m * v ∧ m * v < 10 ^ 1200 := by
  have h0 := Int.mul_nonneg m0 v0
  have h1 : m * v ≤ m * 10 ^ 600 := Int.mul_le_mul_of_nonneg_left (by omega) m0
  have h2 : m * 10 ^ 600 < 10 ^ 600 * 10 ^ 600 := Int.mul_lt_mul_of_pos_right m1 (ipow_pos (by omega) 600)
  have h3 := pow_600
  omega
theorem len_mul {zs : List Int} {n : Int} (h : Is 10 zs n) (hn : n < 10 ^ 1300) : zs.length ≤ 1000000 := by
  have := h.len_le (L := 1300) (by omega) hn
  omega
theorem val_lt_600 {za : List Int} (da : Digs 10 za) (hl : za.length ≤ 600) : 0 ≤ val 10 za ∧ val 10 za < 10 ^ 600 := by
  have h1 := val_lt (by omega) da
  have h2 := ipow_le (B := 10) (by omega) hl
  exact ⟨val_nonneg (by omega) da, by omega⟩

theorem cons_zero {zo : List Int} (h : Digs 10 zo) : Digs 10 (0 :: zo) := fun z hz => by
  rw [List.mem_cons] at hz
  rcases hz with rfl | hz
  · exact ⟨by omega, by omega⟩
  · exact h z hz
theorem x_one {m v : Int} {zo : List Int} (hm : 0 ≤ m ∧ m < 10 ^ 600) (hv : 0 ≤ v ∧ v < 10 ^ 600) (e : val 10 zo = m * v) : val 10 (0 :: zo) < 10 ^ 1300 := by
  have h := prod_lt hm.1 hm.2 hv.1 hv.2
  have h2 := pow_1300
  have h3 := ipow_pos (B := 10) (by omega) 1200
  rw [val, e]
  omega
theorem x_two {m y : Int} (hm : 0 ≤ m ∧ m < 10 ^ 600) (y1 : 0 ≤ y) (y2 : y < 10) : y * m < 10 ^ 1300 := by
  have h2 := pow_1300
  have h3 := ipow_pos (B := 10) (by omega) 1200
  have h4 : (10 : Int) ^ 600 ≤ 10 ^ 1200 := by decide +kernel
  have h5 : y * m ≤ 9 * m := Int.mul_le_mul_of_nonneg_right (by omega) hm.1
  omega
theorem x_three {m v : Int} (hm : 0 ≤ m ∧ m < 10 ^ 600) (hv : 0 ≤ v ∧ v < 10 ^ 600) : m * v < 10 ^ 1300 := by
  have h := prod_lt hm.1 hm.2 hv.1 hv.2
  have h2 := pow_1300
  have h3 := ipow_pos (B := 10) (by omega) 1200
  omega

theorem mul_any (a : Option Addr) (la ca : Nat) (za : List Int) (b : Option Addr) (lb cb : Nat) (zb : List Int) (w : World)
    (ha : Row .i64 w a la ca za) (da : Digs 10 za) (hb : Row .i64 w b lb cb zb) (db : Digs 10 zb) (la6 : la ≤ 600) (lb6 : lb ≤ 600) :
    Calls Try.prog 77 #[.slice a la ca, .slice b lb cb] w (Gives .i64 w fun r => Is 10 r (val 10 za * val 10 zb)) := by
  obtain ⟨i0, hi, hz0, hz1, hz2⟩ := info_parts Try.infoInt
  have HA := Lib.hid ha
  have HB := Lib.hid hb
  have DA := Lib.hid da
  have DB := Lib.hid db
  have LA := Lib.hid ha.len
  have LB := Lib.hid hb.len
  have VA := Lib.hid (val_lt_600 da (by rw [ha.len]; exact la6))
  clear ha hb da db
  go_enter Try.func77, Try.ntmps77
  go_wp2
  go_loopw [5, 6] (fun v i wr => ∃ (c : Int) (j : Nat) (ao : Option Addr) (lo co : Nat) (zo : List Int), i = .int .i64 c ∧ c = j - 1 ∧ j ≤ lb ∧ v = .slice ao lo co ∧ lo ≤ 1000000 ∧ Row .i64 wr ao lo co zo ∧ Is 10 zo (val 10 za * val 10 (zb.drop j)) ∧ Below w.heap.size w wr ∧ Fresh w.heap.size ao) (fun _ i _ => (intOf i + 1).toNat)
  case atStart => exact ⟨_, lb, none, 0, 0, [], rfl, rfl, Nat.le_refl _, rfl, by omega, Row.nil, by rw [List.drop_eq_nil_of_le (by rw [LB.out]; omega)]; simp [val]; exact is_nil, Below.refl _ _, Fresh.none⟩
  case round =>
    obtain ⟨c, j, ao, lo, co, zo, rfl, hcj, hj, rfl, hlo, hro, hio, hbel, hfo⟩ := hrel
    have HFo := Lib.hid hfo
    clear hfo
    have HR := Lib.hid hro
    have HI := Lib.hid hio
    have HW := Lib.hid hbel
    have hsz := hbel.size
    clear hro hio hbel
    cases j with
    | zero =>
      obtain rfl : c = -1 := by omega
      clear hcj
      go_wp2_with (go_at_call 99; refine (cut_at 10 _ _ _ zo _ HR.out HI.out.1).mono ?_; rintro e w' ⟨l2, zs2, rfl, hr2, hp2, rfl⟩; have HR2 := Lib.hid hr2; have HP2 := Lib.hid hp2; clear hr2 hp2)
      go_ret
      exact ⟨_, _, _, _, rfl, HR2.out, by have := HP2.out; rw [HI.out.2.2] at this; exact this, HW.out, HFo.out⟩
    | succ i =>
      obtain rfl : c = (i : Int) := by omega
      clear hcj
      obtain ⟨bb, ob, rfl, hcb0⟩ := (HB.out.below HW.out).cell (show i < lb by omega)
      obtain ⟨y1, y2⟩ := DB.out.getD (by omega) i
      obtain ⟨y, hy⟩ : ∃ y, zb.getD i 0 = y := ⟨_, rfl⟩
      rw [hy] at hcb0 y1 y2
      have HY := Lib.hid hy
      have HC := Lib.hid hcb0
      have hlt := World.block_lt_of_cell? _ _ hcb0
      clear hy hcb0
      have i1 : (i : Int) < (lb : Int) := by omega
      have i2 : 0 ≤ (i : Int) := by omega
      have HX1 := Lib.hid (x_one (zo := zo) VA.out (val_lt_600 (DB.out.drop (i + 1)) (by rw [List.length_drop, LB.out]; omega)) HI.out.2.2)
      have HX2 := Lib.hid (x_two VA.out y1 y2)
      have HX3 := Lib.hid (x_three VA.out (val_lt_600 (DB.out.drop i) (by rw [List.length_drop, LB.out]; omega)))
      rcases ao with _ | ad
      · obtain ⟨rfl, rfl, rfl⟩ := HR.out.none_cap
        go_wp2_with (at_builtin; refine wpList_append_own_none rfl _ _ 109 rfl wr.heap.size 3 i0 1 Try.underlying109 hi _ _ _ rfl (World.ownsRow_lit (e := 3) (size := 1) wr #[.int .i64 0] 1 (Nat.le_refl _) (by unfold maxLen; omega) rfl) rfl ?_)
        obtain ⟨a5, c5, hv5, hrow5, _⟩ := row_of_owns (k := .i64) (zs := [0]) (World.ownsRow_lit (base := wr.heap.size) (e := 3) (size := 1) wr #[.int .i64 0] 1 (Nat.le_refl _) (by unfold maxLen; omega) rfl)
        simp only [Value.slice.injEq] at hv5
        obtain ⟨rfl, _, rfl⟩ := hv5
        have HR5 := Lib.hid hrow5
        have HB5 := Lib.hid ((Below.refl wr.heap.size wr).alloc (Nat.le_refl _) (Obj.cells #[Value.int IntKind.i64 0] 3))
        clear hrow5
        have hlt5 := Nat.lt_of_lt_of_le hlt HB5.out.size
        have HC5 := Lib.hid ((HB5.out.cell (p := ⟨bb, ob + i, none⟩) hlt).trans HC.out)
        have RD5 := Lib.hid HR5.out.drew
        have RA5 := Lib.hid ((HA.out.below HW.out).below HB5.out).drew
        have D5 := Lib.hid (show Digs 10 (0 :: ([] : List Int)) from cons_zero HI.out.1)
        have hcb := HC5.out
        go_region_held3 (fun w' => w'.cell? ⟨bb, ob + i, none⟩ = some (.int .i64 y)) (first | go_keep | exact (HB3.out.cell (p := ⟨bb, ob + i, none⟩) (Nat.lt_of_lt_of_le hlt5 HBT.out.size)).trans ((HBT.out.cell (p := ⟨bb, ob + i, none⟩) hlt5).trans HC5.out) | exact (HBT.out.cell (p := ⟨bb, ob + i, none⟩) hlt5).trans HC5.out)
          (first
            | (go_at_call 99; refine (cut_any 10 _ _ _ (0 :: ([] : List Int)) _ RD5.out D5.out).mono ?_; rintro e wc ⟨a6, l6, c6, z6, rfl, hr6, hi6, rfl⟩; have L6 := Lib.hid (show l6 ≤ 1000000 by rw [← hr6.len]; exact len_mul hi6 HX1.out); have HR6 := Lib.hid hr6; have HI6 := Lib.hid hi6; clear hr6 hi6)
            | (go_at_call 96; refine (times_any _ _ _ za _ _ RA5.out DA.out (by omega) (by omega) (by omega)).mono ?_; rintro e wt ⟨at1, lt, ct, zt, rfl, hrt, hit, hbt, _⟩; have LT := Lib.hid (show lt ≤ 1000000 by rw [← hrt.len]; exact len_mul hit HX2.out); have HRT := Lib.hid hrt; have HIT := Lib.hid hit; have HBT := Lib.hid hbt; clear hrt hit hbt)
            | (go_at_call 78; refine (add_any _ _ _ z6 _ _ _ zt _ (HR6.out.below HBT.out) HI6.out.1 HRT.out HIT.out.1 L6.out LT.out).mono ?_; rintro e w3 ⟨a3, l3, c3, z3, rfl, hr3, hi3, hb3, hf3⟩; have HR3 := Lib.hid hr3; have HI3 := Lib.hid hi3; have HB3 := Lib.hid hb3; have HF3 := Lib.hid hf3; clear hr3 hi3 hb3 hf3))
        all_goals
          have hv3 : val 10 z6 + val 10 zt = val 10 za * val 10 (zb.drop i) := by
            rw [HI6.out.2.2, HIT.out.2.2, val, HI.out.2.2, val_drop 10 zb i, HY.out, Int.mul_add, Int.mul_comm (val 10 za) y, Int.mul_left_comm (val 10 za) 10]; omega
          have I3 := Lib.hid (hv3 ▸ HI3.out)
          have L3 := Lib.hid (show l3 ≤ 1000000 by rw [← HR3.out.len]; exact len_mul I3.out HX3.out)
          clear hv3
          go_wp2
          go_roundw
          case rel => exact ⟨_, i, a3, l3, c3, z3, rfl, rfl, by omega, rfl, L3.out, HR3.out, I3.out, below_next (below_next (below_next HW.out HB5.out).drew HBT.out) HB3.out, HF3.out.mono (below_next (below_next HW.out HB5.out).drew HBT.out).size⟩
          case measure => simp [intOf] <;> omega
      · go_wp2_with (at_builtin; refine wpList_append_own _ rfl _ _ 109 rfl wr.heap.size 3 i0 (.int .i64 0) 1 8 Try.underlying109 hi hz0 hz1 hz2 rfl (by decide) (.slice (some ⟨wr.heap.size, 0, none⟩) 1 1) 1 [.int .i64 0] rfl (World.ownsRow_lit (e := 3) (size := 1) wr #[.int .i64 0] 1 (Nat.le_refl _) (by unfold maxLen; omega) rfl) ad lo co (zo.map (Value.int .i64)) rfl (by simp [HR.out.len]) (HR.out.below ((Below.refl _ _).alloc (Nat.le_refl _) _)).news (ints_one _ _) (by unfold maxLen; omega) (by omega) (by simp) ?_; intro v2 w2 hown2 hgrow2 hnil2; have HO2 := Lib.hid hown2; have HG2 := Lib.hid hgrow2; clear hown2 hgrow2 hnil2)
        obtain ⟨a5, c5, rfl, hrow5, _⟩ := row_of_owns (k := .i64) (zs := 0 :: zo) HO2.out
        have HR5 := Lib.hid hrow5
        have HB5 := Lib.hid (((Below.refl wr.heap.size wr).alloc (Nat.le_refl _) (Obj.cells #[Value.int IntKind.i64 0] 3)).grown HG2.out (by simp) (fun g hg => Nat.le_of_eq (by simpa [Value.ownBlock] using hg)))
        clear hrow5
        have hlt5 := Nat.lt_of_lt_of_le hlt HB5.out.size
        have HC5 := Lib.hid ((HB5.out.cell (p := ⟨bb, ob + i, none⟩) hlt).trans HC.out)
        have RD5 := Lib.hid HR5.out.drew
        have RA5 := Lib.hid ((HA.out.below HW.out).below HB5.out).drew
        have D5 := Lib.hid (show Digs 10 (0 :: zo) from cons_zero HI.out.1)
        have hcb := HC5.out
        go_region_held3 (fun w' => w'.cell? ⟨bb, ob + i, none⟩ = some (.int .i64 y)) (first | go_keep | exact (HB3.out.cell (p := ⟨bb, ob + i, none⟩) (Nat.lt_of_lt_of_le hlt5 HBT.out.size)).trans ((HBT.out.cell (p := ⟨bb, ob + i, none⟩) hlt5).trans HC5.out) | exact (HBT.out.cell (p := ⟨bb, ob + i, none⟩) hlt5).trans HC5.out)
          (first
            | (go_at_call 99; refine (cut_any 10 _ _ _ (0 :: zo) _ RD5.out D5.out).mono ?_; rintro e wc ⟨a6, l6, c6, z6, rfl, hr6, hi6, rfl⟩; have L6 := Lib.hid (show l6 ≤ 1000000 by rw [← hr6.len]; exact len_mul hi6 HX1.out); have HR6 := Lib.hid hr6; have HI6 := Lib.hid hi6; clear hr6 hi6)
            | (go_at_call 96; refine (times_any _ _ _ za _ _ RA5.out DA.out (by omega) (by omega) (by omega)).mono ?_; rintro e wt ⟨at1, lt, ct, zt, rfl, hrt, hit, hbt, _⟩; have LT := Lib.hid (show lt ≤ 1000000 by rw [← hrt.len]; exact len_mul hit HX2.out); have HRT := Lib.hid hrt; have HIT := Lib.hid hit; have HBT := Lib.hid hbt; clear hrt hit hbt)
            | (go_at_call 78; refine (add_any _ _ _ z6 _ _ _ zt _ (HR6.out.below HBT.out) HI6.out.1 HRT.out HIT.out.1 L6.out LT.out).mono ?_; rintro e w3 ⟨a3, l3, c3, z3, rfl, hr3, hi3, hb3, hf3⟩; have HR3 := Lib.hid hr3; have HI3 := Lib.hid hi3; have HB3 := Lib.hid hb3; have HF3 := Lib.hid hf3; clear hr3 hi3 hb3 hf3))
        all_goals
          have hv3 : val 10 z6 + val 10 zt = val 10 za * val 10 (zb.drop i) := by
            rw [HI6.out.2.2, HIT.out.2.2, val, HI.out.2.2, val_drop 10 zb i, HY.out, Int.mul_add, Int.mul_comm (val 10 za) y, Int.mul_left_comm (val 10 za) 10]; omega
          have I3 := Lib.hid (hv3 ▸ HI3.out)
          have L3 := Lib.hid (show l3 ≤ 1000000 by rw [← HR3.out.len]; exact len_mul I3.out HX3.out)
          clear hv3
          go_wp2
          go_roundw
          case rel => exact ⟨_, i, a3, l3, c3, z3, rfl, rfl, by omega, rfl, L3.out, HR3.out, I3.out, below_next (below_next (below_next HW.out HB5.out).drew HBT.out) HB3.out, HF3.out.mono (below_next (below_next HW.out HB5.out).drew HBT.out).size⟩
          case measure => simp [intOf] <;> omega
end Go.Proofs.Ytnlgophgglgneaa
namespace Go.Proofs.Ytnlgophgglgneaa
open Go.RowKit

theorem made_zeros (k : IntKind) (n : Nat) : (madeCells (Value.int k 0).cells (n * 1)).toList = (List.replicate n (0 : Int)).map (Value.int k) := by
  rw [Nat.mul_one, show (Value.int k 0).cells = #[Value.int k 0] from rfl, toList_madeCells_one, List.map_replicate]
theorem digs_zeros (n : Nat) : Digs 10 (List.replicate n (0 : Int)) := fun z hz => by
  rw [List.mem_replicate] at hz; rw [hz.2]; omega
theorem digs_set {ds : List Int} {i : Nat} {q : Int} (h : Digs 10 ds) (hq : 0 ≤ q ∧ q < 10) : Digs 10 (ds.set i q) := fun z hz => by
  rcases List.mem_or_eq_of_mem_set hz with h' | rfl
  · exact h z h'
  · exact hq
theorem drop_set {ds : List Int} {i : Nat} {q : Int} (h : i < ds.length) : (ds.set i q).drop i = q :: ds.drop (i + 1) := by
  rw [List.drop_eq_getElem_cons (by rw [List.length_set]; exact h), List.getElem_set_self, List.drop_set_of_lt (by omega)]
theorem div_step {V W k r x n q r' : Int} (hn : n = r * 10 + x) (h : V * k + r = W) (hq : n = q * k + r') : (q + 10 * V) * k + r' = x + 10 * W := by
  rw [Int.add_mul, Int.mul_assoc, ← h]
  omega
theorem quo_rem (n k : Int) : n = n / k * k + n % k := by
  have := Int.mul_ediv_add_emod n k
  rw [Int.mul_comm] at this
  omega
theorem quo_bd {r x k : Int} (hk : 0 < k) (r0 : 0 ≤ r) (r1 : r < k) (x0 : 0 ≤ x) (x1 : x < 10) : 0 ≤ (r * 10 + x) / k ∧ (r * 10 + x) / k < 10 := by
  refine ⟨Int.ediv_nonneg (by omega) (by omega), Int.ediv_lt_of_lt_mul hk ?_⟩
  omega

/-- a whole part, and what is left -/
def Parts (w : World) (n k : Int) (e : Ending) (w' : World) : Prop :=
  ∃ a len cap zs, e = .returned (.tuple #[.slice a len cap, .int .i64 (n % k)]) ∧ Row .i64 w' a len cap zs ∧ Is 10 zs (n / k) ∧ (∀ ad : Addr, a = some ad → w.heap.size ≤ ad.block) ∧ Below w.heap.size w w'

theorem div_any (a : Option Addr) (la ca : Nat) (za : List Int) (k : Int) (w : World)
    (ha : Row .i64 w a la ca za) (da : Digs 10 za) (la6 : la ≤ 1000000) (k0 : 0 < k) (k1 : k ≤ 4294967296) :
    Calls Try.prog 98 #[.slice a la ca, .int .i64 k] w (Parts w (val 10 za) k) := by
  obtain ⟨i0, hi, hz0, hz1, hz2⟩ := info_parts Try.infoInt
  have HA := Lib.hid ha
  have DA := Lib.hid da
  have LA := Lib.hid ha.len
  clear ha da
  have hby : i0.bytes * la ≤ 281474976710656 := by rw [hz2]; omega
  have HBY := Lib.hid hby
  clear hby
  go_enter Try.func98, Try.ntmps98
  go_wp2_with (at_make; refine wpList_make_full _ rfl _ _ 109 rfl w.heap.size 3 i0 (.int .i64 0) 1 Try.underlying109 hi hz0 hz1 _ _ _ _ la rfl rfl rfl rfl HBY.out (by unfold maxLen; omega) (Nat.le_refl _) ?_; intro w1 hown hgrow; have HO := Lib.hid hown; have HG := Lib.hid hgrow; clear hown hgrow)
  go_loopw [7, 8] (fun u i wr => ∃ (r c : Int) (j : Nat) (ds : List Int), u = .int .i64 r ∧ i = .int .i64 c ∧ c = j - 1 ∧ j ≤ la ∧ 0 ≤ r ∧ r < k ∧ ds.length = la ∧ Digs 10 ds ∧ val 10 (ds.drop j) * k + r = val 10 (za.drop j) ∧ wr.ownsRow w.heap.size 3 1 (.slice (some ⟨w.heap.size, 0, none⟩) la la) la (ds.map (Value.int .i64)) ∧ Below w.heap.size w wr) (fun _ i _ => (intOf i + 1).toNat)
  case atStart =>
    refine ⟨0, _, la, List.replicate la 0, rfl, rfl, rfl, Nat.le_refl _, by omega, k0, List.length_replicate, digs_zeros la, ?_, ?_, (Below.refl _ _).grown HG.out (Nat.le_refl _) (fun g hg => by cases hg)⟩
    · rw [List.drop_eq_nil_of_le (by rw [List.length_replicate]; omega), List.drop_eq_nil_of_le (by rw [LA.out]; omega)]; simp [val]
    · rw [← made_zeros]; exact HO.out
  case round =>
    obtain ⟨r, c, j, ds, rfl, rfl, hcj, hj, r0, r1, hdl, hdg, hval, hown, hbel⟩ := hrel
    have HDl := Lib.hid hdl
    have HDg := Lib.hid hdg
    have HVal := Lib.hid hval
    have HO2 := Lib.hid hown
    have HW := Lib.hid hbel
    clear hdl hdg hval hown hbel
    cases j with
    | zero =>
      obtain rfl : c = -1 := by omega
      clear hcj
      have e : val 10 za / k = val 10 ds ∧ val 10 za % k = r := by
        have := HVal.out
        rw [List.drop_zero, List.drop_zero] at this
        exact (Int.ediv_emod_unique k0).mpr ⟨by rw [← this, Int.mul_comm]; omega, r0, r1⟩
      obtain ⟨a5, c5, hv5, hrow5, _⟩ := row_of_owns HO2.out
      simp only [Value.slice.injEq] at hv5
      obtain ⟨rfl, _, rfl⟩ := hv5
      have E := Lib.hid e
      have HR5 := Lib.hid hrow5
      clear e hrow5
      go_wp2_with (go_at_call 99; refine (cut_at 10 _ _ _ ds _ HR5.out HDg.out).mono ?_; rintro e w' ⟨l2, zs2, rfl, hr2, hp2, rfl⟩; have HR2 := Lib.hid hr2; have HP2 := Lib.hid hp2; clear hr2 hp2)
      go_ret2
      exact ⟨_, _, _, _, ret_vi E.out.2.symm, HR2.out, by rw [E.out.1]; exact HP2.out, (fun ad h => by cases h; exact Nat.le_refl _), HW.out⟩
    | succ i =>
      obtain rfl : c = (i : Int) := by omega
      clear hcj
      obtain ⟨ba, oa, rfl, hca⟩ := (HA.out.below HW.out).cell (show i < la by omega)
      obtain ⟨x1, x2⟩ := DA.out.getD (by omega) i
      obtain ⟨x, hx⟩ : ∃ x, za.getD i 0 = x := ⟨_, rfl⟩
      rw [hx] at hca x1 x2
      have HX := Lib.hid hx
      clear hx
      have i1 : (i : Int) < (la : Int) := by omega
      have ⟨q1, q2⟩ := quo_bd k0 r0 r1 x1 x2
      have m1 : 0 ≤ (r * 10 + x) % k := Int.emod_nonneg _ (by omega)
      have m2 : (r * 10 + x) % k < k := Int.emod_lt_of_pos _ k0
      have hcell : wr.cell? ⟨w.heap.size, i, none⟩ = some (.int .i64 (ds.getD i 0)) := by
        rw [HO2.out.cellAt i (by omega), List.getElem?_map, List.getElem?_eq_getElem (by rw [HDl.out]; omega), List.getD_eq_getElem?_getD, List.getElem?_eq_getElem (by rw [HDl.out]; omega)]; rfl
      obtain ⟨d0, hd0⟩ : ∃ d0, ds.getD i 0 = d0 := ⟨_, rfl⟩
      rw [hd0] at hcell
      clear hd0
      have hfz := HO2.out.frozenAt i
      have HN := Lib.hid (show val 10 ((ds.set i ((r * 10 + x) / k)).drop i) * k + (r * 10 + x) % k = val 10 (za.drop i) by
        rw [drop_set (by rw [HDl.out]; omega), val, val_drop 10 za i, HX.out]
        exact div_step rfl HVal.out (quo_rem _ _))
      go_wp2
      go_roundw
      case rel =>
        refine ⟨_, _, i, ds.set i ((r * 10 + x) / k), rfl, rfl, rfl, by omega, m1, m2, by rw [List.length_set]; exact HDl.out, digs_set HDg.out ⟨q1, q2⟩, HN.out, ?_, HW.out.setCell (Nat.le_refl _) _⟩
        rw [List.map_set]
        exact (HO2.out.stored i _).1
      case measure => simp [intOf] <;> omega

theorem Is.zero_or {B n : Int} {zs : List Int} (h : Is B zs n) (hl : zs.length = 0) : n = 0 := by
  rw [List.length_eq_zero_iff.mp hl] at h; exact h.2.2.symm
theorem Is.pos {B n : Int} {zs : List Int} (hB : 0 < B) (h : Is B zs n) (hl : 0 < zs.length) : 0 < n := by
  have h1 := h.nonneg hB
  rcases Int.lt_or_le 0 n with g | g
  · exact g
  · have := top_zero hB h.1 h.2.1 (by rw [h.2.2]; omega)
    rw [this] at hl; simp at hl

theorem quo_len {zd z2 : List Int} {c : Int} (h : Is 10 zd c) (h2 : Is 10 z2 (c / 4294967296)) (hc : 0 < c) : z2.length < zd.length := by
  have h1 := val_lt (by omega) h.1
  rw [h.2.2] at h1
  cases hz : zd.length with
  | zero => rw [hz] at h1; simp at h1; omega
  | succ m =>
    rw [hz, Int.pow_succ] at h1
    have := h2.len_le (L := m) (by omega) (by omega)
    omega

theorem limbs_any (a : Option Addr) (la ca : Nat) (za : List Int) (n : Int) (w : World) (ha : Row .i64 w a la ca za) (ia : Is 10 za n) (la6 : la ≤ 100000) :
    Calls Try.prog 76 #[.slice a la ca] w (Gives .u32 w fun r => Is 4294967296 r n) := by
  obtain ⟨i0, hi, hz0, hz1, hz2⟩ := info_parts Try.infoU32
  have HA := Lib.hid ha
  have IA := Lib.hid ia
  clear ha ia
  go_enter Try.func76, Try.ntmps76
  go_wp2
  go_loopw [0, 3] (fun u v wr => ∃ (i : Nat) (c : Int) (ds : List Int) (ad : Option Addr) (ld cd : Nat) (zd : List Int), u = .slice ad ld cd ∧ Row .i64 wr ad ld cd zd ∧ Is 10 zd c ∧ i + ld ≤ la ∧ wr.ownsRow w.heap.size 107 1 v i (ds.map (Value.int .u32)) ∧ Digs 4294967296 ds ∧ ds.length = i ∧ val 4294967296 ds + 4294967296 ^ i * c = n ∧ (c = 0 → Top ds) ∧ Below w.heap.size w wr) (fun u _ _ => lenOf u)
  case atStart => exact ⟨0, n, [], a, la, ca, za, rfl, HA.out, IA.out, by omega, World.ownsRow_nil _ _ _ _, Digs.nil, rfl, by simp [val], (fun _ => by simp [Top]), Below.refl _ _⟩
  case round =>
    obtain ⟨i, c, ds, ad, ld, cd, zd, rfl, hrow, hic, hil, hown, hdg, hdl, hval, htop, hbel⟩ := hrel
    have HR := Lib.hid hrow
    have HI := Lib.hid hic
    have HO := Lib.hid hown
    have HDg := Lib.hid hdg
    have HDl := Lib.hid hdl
    have HVal := Lib.hid hval
    have HTop := Lib.hid htop
    have HW := Lib.hid hbel
    have hsz := hbel.size
    have ⟨c1, c2⟩ := hrow.cap_le
    clear hrow hic hown hdg hdl hval htop hbel
    by_cases g : 0 < ld
    · have cp := HI.out.pos (by omega) (by rw [HR.out.len]; exact g)
      have b1 : decide (0 < ld) = true := by simp; omega
      have q1 : 0 ≤ c % 4294967296 := by omega
      have q2 : c % 4294967296 < 4294967296 := by omega
      have HN := Lib.hid (small_next (B := 4294967296) (d := c % 4294967296) (q := c / 4294967296) HDl.out (by omega) HVal.out)
      have HC := Lib.hid cp
      clear cp
      go_wp2_with (first
        | (go_at_call 98; refine (div_any _ _ _ zd _ _ HR.out HI.out.1 (by omega) (by omega) (by omega)).mono ?_; rintro e w2 ⟨a2, l2, cp2, z2, rfl, hr2, hi2, hf2, hb2⟩; rw [HI.out.2.2] at hi2; rw [HI.out.2.2]; have HR2 := Lib.hid hr2; have HI2 := Lib.hid hi2; have HF2 := Lib.hid hf2; have HB2 := Lib.hid hb2; have hsz2 := HB2.out.size; have HO1 := Lib.hid (owns_below HO.out HB2.out); clear hr2 hi2 hf2 hb2)
        | (at_builtin; refine wpList_append_own _ rfl _ _ 56 rfl w.heap.size 107 i0 (.int .u32 0) 1 4 Try.underlying56 hi hz0 hz1 hz2 rfl (by decide) _ _ _ rfl (HO1.out.alloc _) ⟨w2.heap.size, 0, none⟩ 1 1 [.int .u32 (c % 4294967296)] rfl rfl (one_new _ _ _) (one_cell _ _) (by unfold maxLen; omega) (by omega) (by simp; omega) ?_; intro v3 w3 hown3 hgrow3 hnil3; have HO3 := Lib.hid hown3; have HG3 := Lib.hid hgrow3; clear hown3 hgrow3 hnil3))
      go_roundw
      case rel =>
        have hl := quo_len HI.out HI2.out HC.out
        rw [HR.out.len, HR2.out.len] at hl
        have hr3 : Row .i64 w3 a2 l2 cp2 z2 := (HR2.out.below ((Below.refl _ _).alloc (Nat.le_refl _) _)).apart HG3.out (fun ad had e => by
          have h1 := HF2.out ad had
          have h2 := (HO.out.lt _ e.symm).2
          omega)
        exact ⟨i + 1, c / 4294967296, ds ++ [c % 4294967296], a2, l2, cp2, z2, rfl, hr3, HI2.out, by omega, owns_snoc HO3.out, HDg.out.snoc ⟨by omega, by omega⟩, by simp [HDl.out], HN.out, (fun e => top_snoc (by have := HC.out; omega)), below_append (below_next HW.out HB2.out) HO1.out HG3.out⟩
      case measure =>
        have hl := quo_len HI.out HI2.out HC.out
        rw [HR.out.len, HR2.out.len] at hl
        simp [lenOf]; omega
    · obtain rfl : c = 0 := HI.out.zero_or (by rw [HR.out.len]; omega)
      have b1 : decide (0 < ld) = false := by simp; omega
      have hv : val 4294967296 ds = n := by have := HVal.out; simpa using this
      obtain ⟨a', cap', rfl, hrow, hfr⟩ := row_of_owns HO.out
      have HF := Lib.hid hfr
      clear hfr
      have HR' := Lib.hid hrow
      have HV := Lib.hid hv
      have HT := Lib.hid (HTop.out rfl)
      clear hrow hv HTop
      go_wp2
      go_ret
      exact ⟨_, _, _, _, rfl, HR'.out, ⟨HDg.out, HT.out, HV.out⟩, HW.out, HF.out⟩
end Go.Proofs.Ytnlgophgglgneaa
namespace Go.Proofs.Ytnlgophgglgneaa
open Go.RowKit

theorem pow_50 : (4294967296 : Int) ^ 50 ≤ 10 ^ 500 := by decide +kernel
theorem pow_500 : (10 : Int) ^ 500 * 10 ^ 500 = 10 ^ 1000 := by decide +kernel
theorem pow_501 : (10 : Int) ^ 500 + 10 ^ 500 ≤ 10 ^ 501 := by decide +kernel
theorem lim_lt {za : List Int} {m : Int} (ia : Is 4294967296 za m) (hl : za.length ≤ 50) : 0 ≤ m ∧ m < 10 ^ 500 := by
  have h1 := val_lt (by omega) ia.1
  rw [ia.2.2] at h1
  have h2 := ipow_le (B := 4294967296) (by omega) hl
  have h3 := pow_50
  exact ⟨ia.nonneg (by omega), by omega⟩
theorem dig_len {zs : List Int} {m : Int} (h : Is 10 zs m) (hm : m < 10 ^ 500) : zs.length ≤ 500 := h.len_le (by omega) hm
theorem sum_len {zs : List Int} {m n : Int} (h : Is 10 zs (m + n)) (hm : m < 10 ^ 500) (hn : n < 10 ^ 500) : zs.length ≤ 501 :=
  h.len_le (by omega) (by have := pow_501; omega)
theorem mul_len {zs : List Int} {m n : Int} (h : Is 10 zs (m * n)) (hm : 0 ≤ m ∧ m < 10 ^ 500) (hn : 0 ≤ n ∧ n < 10 ^ 500) : zs.length ≤ 1000 := by
  refine h.len_le (by omega) ?_
  have h1 : m * n ≤ m * 10 ^ 500 := Int.mul_le_mul_of_nonneg_left (by omega) hm.1
  have h2 : m * 10 ^ 500 < 10 ^ 500 * 10 ^ 500 := Int.mul_lt_mul_of_pos_right hm.2 (ipow_pos (by omega) 500)
  have h3 := pow_500
  omega

theorem Cmp_any (a : Option Addr) (la ca : Nat) (za : List Int) (m : Int) (b : Option Addr) (lb cb : Nat) (zb : List Int) (n : Int) (w : World)
    (ha : Row .u32 w a la ca za) (ia : Is 4294967296 za m) (hb : Row .u32 w b lb cb zb) (ib : Is 4294967296 zb n) (la5 : la ≤ 50) (lb5 : lb ≤ 50) :
    Calls Try.prog 56 #[.slice a la ca, .slice b lb cb] w fun e w' => e = .returned (.int .i64 (cmpI m n)) ∧ Below w.heap.size w w' := by
  have HA := Lib.hid ha
  have HB := Lib.hid hb
  have IA := Lib.hid ia
  have IB := Lib.hid ib
  clear ha hb ia ib
  go_enter Try.func56, Try.ntmps56
  go_wp2_with fail
  refine (from_any _ _ _ za _ HA.out IA.out.1 (by omega)).mono ?_
  rintro e w1 ⟨a1, l1, k1, z1, rfl, hr1, hi1, hb1, hf1⟩
  have HR1 := Lib.hid hr1; have HI1 := Lib.hid hi1; have HB1 := Lib.hid hb1; have HF1 := Lib.hid hf1
  clear hr1 hi1 hb1 hf1
  go_wp2_with fail
  refine (from_any _ _ _ zb _ (HB.out.below HB1.out) IB.out.1 (by omega)).mono ?_
  rintro e w2 ⟨a2, l2, k2, z2, rfl, hr2, hi2, hb2, hf2⟩
  have HR2 := Lib.hid hr2; have HI2 := Lib.hid hi2; have HB2 := Lib.hid hb2; have HF2 := Lib.hid hf2
  clear hr2 hi2 hb2 hf2
  go_wp2_with fail
  refine (cmp_any _ _ _ z1 _ _ _ _ z2 _ _ (HR1.out.below HB2.out) HI1.out HR2.out HI2.out).mono ?_
  rintro e w3 ⟨rfl, t, rfl⟩
  go_wp2
  go_ret
  exact ⟨ret_one (by rw [IA.out.2.2, IB.out.2.2]), below_drewN (below_next HB1.out HB2.out) _⟩

theorem Add_any (a : Option Addr) (la ca : Nat) (za : List Int) (m : Int) (b : Option Addr) (lb cb : Nat) (zb : List Int) (n : Int) (w : World)
    (ha : Row .u32 w a la ca za) (ia : Is 4294967296 za m) (hb : Row .u32 w b lb cb zb) (ib : Is 4294967296 zb n) (la5 : la ≤ 50) (lb5 : lb ≤ 50) :
    Calls Try.prog 58 #[.slice a la ca, .slice b lb cb] w (Gives .u32 w fun r => Is 4294967296 r (m + n)) := by
  have HA := Lib.hid ha
  have HB := Lib.hid hb
  have IA := Lib.hid ia
  have IB := Lib.hid ib
  have VA := Lib.hid (lim_lt ia (by rw [ha.len]; exact la5))
  have VB := Lib.hid (lim_lt ib (by rw [hb.len]; exact lb5))
  clear ha hb ia ib
  go_enter Try.func58, Try.ntmps58
  go_wp2_with fail
  refine (from_any _ _ _ za _ HA.out IA.out.1 (by omega)).mono ?_
  rintro e w1 ⟨a1, l1, k1, z1, rfl, hr1, hi1, hb1, hf1⟩
  rw [IA.out.2.2] at hi1
  have HL1 := Lib.hid (dig_len hi1 VA.out.2); rw [hr1.len] at HL1
  have HR1 := Lib.hid hr1; have HI1 := Lib.hid hi1; have HB1 := Lib.hid hb1; have HF1 := Lib.hid hf1
  clear hr1 hi1 hb1 hf1
  go_wp2_with fail
  refine (from_any _ _ _ zb _ (HB.out.below HB1.out) IB.out.1 (by omega)).mono ?_
  rintro e w2 ⟨a2, l2, k2, z2, rfl, hr2, hi2, hb2, hf2⟩
  rw [IB.out.2.2] at hi2
  have HL2 := Lib.hid (dig_len hi2 VB.out.2); rw [hr2.len] at HL2
  have HR2 := Lib.hid hr2; have HI2 := Lib.hid hi2; have HB2 := Lib.hid hb2; have HF2 := Lib.hid hf2
  clear hr2 hi2 hb2 hf2
  go_wp2_with fail
  refine (add_any _ _ _ z1 _ _ _ z2 _ (HR1.out.below HB2.out) HI1.out.1 HR2.out HI2.out.1 (by have := HL1.out; omega) (by have := HL2.out; omega)).mono ?_
  rintro e w3 ⟨a3, l3, k3, z3, rfl, hr3, hi3, hb3, hf3⟩
  rw [HI1.out.2.2, HI2.out.2.2] at hi3
  have HL3 := Lib.hid (sum_len hi3 VA.out.2 VB.out.2); rw [hr3.len] at HL3
  have HR3 := Lib.hid hr3; have HI3 := Lib.hid hi3; have HB3 := Lib.hid hb3; have HF3 := Lib.hid hf3
  clear hr3 hi3 hb3 hf3
  go_wp2_with fail
  refine (limbs_any _ _ _ z3 _ _ HR3.out HI3.out (by have := HL3.out; omega)).mono ?_
  rintro e w4 ⟨a4, l4, k4, z4, rfl, hr4, hi4, hb4, hf4⟩
  have HR4 := Lib.hid hr4; have HI4 := Lib.hid hi4; have HB4 := Lib.hid hb4; have HF4 := Lib.hid hf4
  clear hr4 hi4 hb4 hf4
  go_wp2
  go_ret
  exact ⟨_, _, _, _, rfl, HR4.out, HI4.out, below_next (below_next (below_next HB1.out HB2.out) HB3.out) HB4.out, HF4.out.mono (below_next (below_next HB1.out HB2.out) HB3.out).size⟩

theorem Mul_any (a : Option Addr) (la ca : Nat) (za : List Int) (m : Int) (b : Option Addr) (lb cb : Nat) (zb : List Int) (n : Int) (w : World)
    (ha : Row .u32 w a la ca za) (ia : Is 4294967296 za m) (hb : Row .u32 w b lb cb zb) (ib : Is 4294967296 zb n) (la5 : la ≤ 50) (lb5 : lb ≤ 50) :
    Calls Try.prog 57 #[.slice a la ca, .slice b lb cb] w (Gives .u32 w fun r => Is 4294967296 r (m * n)) := by
  have HA := Lib.hid ha
  have HB := Lib.hid hb
  have IA := Lib.hid ia
  have IB := Lib.hid ib
  have VA := Lib.hid (lim_lt ia (by rw [ha.len]; exact la5))
  have VB := Lib.hid (lim_lt ib (by rw [hb.len]; exact lb5))
  clear ha hb ia ib
  go_enter Try.func57, Try.ntmps57
  go_wp2_with fail
  refine (from_any _ _ _ za _ HA.out IA.out.1 (by omega)).mono ?_
  rintro e w1 ⟨a1, l1, k1, z1, rfl, hr1, hi1, hb1, hf1⟩
  rw [IA.out.2.2] at hi1
  have HL1 := Lib.hid (dig_len hi1 VA.out.2); rw [hr1.len] at HL1
  have HR1 := Lib.hid hr1; have HI1 := Lib.hid hi1; have HB1 := Lib.hid hb1; have HF1 := Lib.hid hf1
  clear hr1 hi1 hb1 hf1
  go_wp2_with fail
  refine (from_any _ _ _ zb _ (HB.out.below HB1.out) IB.out.1 (by omega)).mono ?_
  rintro e w2 ⟨a2, l2, k2, z2, rfl, hr2, hi2, hb2, hf2⟩
  rw [IB.out.2.2] at hi2
  have HL2 := Lib.hid (dig_len hi2 VB.out.2); rw [hr2.len] at HL2
  have HR2 := Lib.hid hr2; have HI2 := Lib.hid hi2; have HB2 := Lib.hid hb2; have HF2 := Lib.hid hf2
  clear hr2 hi2 hb2 hf2
  go_wp2_with fail
  refine (mul_any _ _ _ z1 _ _ _ z2 _ (HR1.out.below HB2.out) HI1.out.1 HR2.out HI2.out.1 (by have := HL1.out; omega) (by have := HL2.out; omega)).mono ?_
  rintro e w3 ⟨a3, l3, k3, z3, rfl, hr3, hi3, hb3, hf3⟩
  rw [HI1.out.2.2, HI2.out.2.2] at hi3
  have HL3 := Lib.hid (mul_len hi3 VA.out VB.out); rw [hr3.len] at HL3
  have HR3 := Lib.hid hr3; have HI3 := Lib.hid hi3; have HB3 := Lib.hid hb3; have HF3 := Lib.hid hf3
  clear hr3 hi3 hb3 hf3
  go_wp2_with fail
  refine (limbs_any _ _ _ z3 _ _ HR3.out HI3.out (by have := HL3.out; omega)).mono ?_
  rintro e w4 ⟨a4, l4, k4, z4, rfl, hr4, hi4, hb4, hf4⟩
  have HR4 := Lib.hid hr4; have HI4 := Lib.hid hi4; have HB4 := Lib.hid hb4; have HF4 := Lib.hid hf4
  clear hr4 hi4 hb4 hf4
  go_wp2
  go_ret
  exact ⟨_, _, _, _, rfl, HR4.out, HI4.out, below_next (below_next (below_next HB1.out HB2.out) HB3.out) HB4.out, HF4.out.mono (below_next (below_next HB1.out HB2.out) HB3.out).size⟩
end Go.Proofs.Ytnlgophgglgneaa
namespace Go.Proofs.Ytnlgophgglgneaa
open Go.RowKit

theorem cmpI_ge {m n : Int} (h : n ≤ m) : 0 ≤ cmpI m n := by
  rcases Int.lt_or_eq_of_le h with g | g
  · rw [cmpI_gt g]; omega
  · rw [cmpI_eq g.symm]; omega
theorem len_ge {B : Int} (hB : 1 < B) {za zb : List Int} {m n : Int} (ha : Is B za m) (hb : Is B zb n) (h : n ≤ m) : zb.length ≤ za.length := by
  rcases Nat.lt_or_ge za.length zb.length with g | g
  · have := len_lt hB ha hb g; omega
  · exact g

/-- a row and an error -/
def GivesE (w : World) (er : Int) (P : List Int → Prop) (e : Ending) (w' : World) : Prop :=
  ∃ a len cap zs, e = .returned (.tuple #[.slice a len cap, .int .i64 er]) ∧ Row .u32 w' a len cap zs ∧ P zs ∧ Below w.heap.size w w' ∧ Fresh w.heap.size a

/-- a whole part, what is left, and an error -/
def Quos (w : World) (r er : Int) (P : List Int → Prop) (e : Ending) (w' : World) : Prop :=
  ∃ a len cap zs, e = .returned (.agg #[.slice a len cap, .int .u32 r, .int .i64 er]) ∧ Row .u32 w' a len cap zs ∧ P zs ∧ Below w.heap.size w w' ∧ Fresh w.heap.size a

theorem new_cells {w w1 : World} {o : Array Value} {t : TypeId} (hb : Below (w.heap.size + 1) (w.alloc (.cells o t)) w1) (j : Nat) :
    w1.cell? ⟨w.heap.size, j, none⟩ = o[j]? ∧ w1.frozen? ⟨w.heap.size, j, none⟩ = false := by
  refine ⟨(hb.cell (p := ⟨w.heap.size, j, none⟩) (Nat.lt_succ_self _)).trans (World.cell?_alloc_at _ _ _ _ rfl), (hb.frozen (p := ⟨w.heap.size, j, none⟩) (Nat.lt_succ_self _)).trans ?_⟩
  simp

end Go.Proofs.Ytnlgophgglgneaa
namespace Go.Proofs.Ytnlgophgglgneaa
open Go.RowKit

/-- the digits of a row, the highest first, as bytes -/
def digB (d : Int) : UInt8 := UInt8.ofNat (48 + d).toNat
def textL (zs : List Int) : List UInt8 := if zs = [] then [48] else zs.reverse.map digB

theorem digB_toNat {x : Int} (h0 : 0 ≤ x) (h1 : x < 10) : ((digB x).toNat : Int) = 48 + x := by
  unfold digB
  rw [UInt8.toNat_ofNat']
  omega
theorem conv_digit {w : World} {x : Int} (src e dst : TypeId) (h0 : 0 ≤ x) (h1 : x < 10) (hs : Try.prog.underlying src = some (.slice e)) (he : Try.prog.underlying e = some (.int .u8)) (hd : Try.prog.underlying dst = some .string) :
    (convert src dst (.slice (some ⟨w.heap.size, 0, none⟩) 1 1)).run Try.prog (w.alloc (.cells #[.int .u8 (48 + x)] e)) = .ok (.string ⟨[digB x].toArray⟩) (w.alloc (.cells #[.int .u8 (48 + x)] e)) := by
  refine run_convert_bytes_back (P := Try.prog) _ src dst e ⟨w.heap.size, 0, none⟩ 1 [digB x] hs he hd (fun j hj => ?_)
  match j, hj with
  | 0, _ => simp [Addr.add, digB_toNat h0 h1]

theorem text_snoc {zs : List Int} {i : Nat} {x : Int} (h : i < zs.length) (hx : zs.getD i 0 = x) :
    (⟨((zs.drop (i + 1)).reverse.map digB).toArray⟩ : ByteArray) ++ ⟨[digB x].toArray⟩ = ⟨((zs.drop i).reverse.map digB).toArray⟩ := by
  apply ByteArray.ext
  rw [drop_at h, hx]
  simp [ByteArray.data_append]

end Go.Proofs.Ytnlgophgglgneaa
namespace Go.Proofs.Ytnlgophgglgneaa
open Go.RowKit

/-- which texts are numbers -/
def GoodS (l : List UInt8) : Prop := l ≠ [] ∧ (∀ c ∈ l, 48 ≤ c.toNat ∧ c.toNat ≤ 57) ∧ ¬ (l.head? = some 48 ∧ 1 < l.length)
def byteD (c : UInt8) : Int := (c.toNat : Int) - 48
/-- the digits of a text, the lowest first -/
def numL (l : List UInt8) : List Int := l.reverse.map byteD
def ParseP (l : List UInt8) (w : World) (e : Ending) (w' : World) : Prop :=
  (GoodS l → GivesE w 0 (fun r => Is 4294967296 r (val 10 (numL l))) e w') ∧ (¬ GoodS l → GivesE w 10 (fun r => Is 4294967296 r 0) e w')
theorem parse_no {l : List UInt8} {w w' : World} (h : ¬ GoodS l) (hb : Below w.heap.size w w') : ParseP l w (.returned (.tuple #[.slice none 0 0, .int .i64 10])) w' :=
  ⟨fun g => absurd g h, fun _ => ⟨none, 0, 0, [], rfl, Row.nil, is_nil, hb, Fresh.none⟩⟩
theorem numL_digs {l : List UInt8} (h : ∀ c ∈ l, 48 ≤ c.toNat ∧ c.toNat ≤ 57) : Digs 10 (numL l) := fun z hz => by
  unfold numL at hz
  rw [List.mem_map] at hz
  obtain ⟨c, hc, rfl⟩ := hz
  have := h c (List.mem_reverse.mp hc)
  unfold byteD
  omega
theorem bytes_drop {s : ByteArray} {i : Nat} (h : i < s.size) : s.data.toList.drop i = s[i] :: s.data.toList.drop (i + 1) := by
  rw [List.drop_eq_getElem_cons (by simpa using h)]; rfl
theorem numL_cons {l : List UInt8} {c : UInt8} : numL (c :: l) = numL l ++ [byteD c] := by simp [numL]

end Go.Proofs.Ytnlgophgglgneaa

/-
  Package slot's reader: number: contract.
-/
import Derived.Test.YtndhpihgeacdfaaSw0
import Derived.Test.YtndhpihgeacdfaaSs8
import Derived.Laws.DeepStrings4
import Derived.WalkLawsBesides
namespace Go.Proofs.Ytndhpihgeacdfaa
open Go.RowKit

/-! ### plain -/
theorem num_val : ∀ (x : List UInt8) (b : UInt8), (∀ c ∈ x, 128 ≤ c.toNat) → b.toNat < 128 → (b.toNat ≠ 0 ∨ x = []) → num (valN (x ++ [b])) = x ++ [b] ∧ (b.toNat ≠ 0 → 0 < valN (x ++ [b]))
  | [], b, _, hb, _ => by
    have e : valN ([] ++ [b]) = b.toNat := by simp [valN]; omega
    rw [e]
    refine ⟨?_, fun h => by omega⟩
    rw [num, if_pos hb]
    have : bt (b.toNat : Int) = b := by
      apply UInt8.toNat_inj.mp
      rw [bt_nat (by omega) (by omega)]
      omega
    rw [this]; rfl
  | c :: x, b, hx, hb, h => by
    have hb0 : b.toNat ≠ 0 := by rcases h with h | h; exact h; cases h
    have ih := num_val x b (fun y hy => hx y (List.mem_cons_of_mem _ hy)) hb (.inl hb0)
    have hc := hx c List.mem_cons_self
    have hc2 : c.toNat < 256 := c.toNat_lt
    have ip := ih.2 hb0
    have e : valN (c :: x ++ [b]) = c.toNat % 128 + 128 * valN (x ++ [b]) := rfl
    rw [e]
    refine ⟨?_, fun _ => by omega⟩
    rw [num, if_neg (by omega)]
    have e1 : (c.toNat % 128 + 128 * valN (x ++ [b])) % 128 = c.toNat % 128 := by omega
    have e2 : (c.toNat % 128 + 128 * valN (x ++ [b])) / 128 = valN (x ++ [b]) := by omega
    rw [e1, e2, ih.1]
    have : bt ((c.toNat % 128 : Nat) + 128 : Int) = c := by
      apply UInt8.toNat_inj.mp
      rw [bt_nat (by omega) (by omega)]
      omega
    rw [this]; rfl
theorem num_end : ∀ (n : Nat) (x : List UInt8) (b : UInt8), num n = x ++ [b] → b.toNat ≠ 0 ∨ x = [] := by
  intro n
  induction n using Nat.strongRecOn with
  | _ n ih =>
    intro x b h
    rw [num] at h
    split at h
    · right
      cases x with
      | nil => rfl
      | cons c x => simp at h
    · rename_i hn
      cases x with
      | nil =>
        exact .inr rfl
      | cons c x =>
        rw [List.cons_append] at h
        simp only [List.cons.injEq] at h
        rcases ih (n / 128) (by omega) x b h.2 with q | q
        · exact .inl q
        · subst q
          left
          intro e
          have h2 := h.2
          have h3 := val_num (n / 128)
          rw [h2] at h3
          simp [valN, e] at h3
          omega
/-- numbers that are read: none, or the one that stands first, and what is behind it -/
theorem rd_at {l : List UInt8} {j : Nat} {b : UInt8} (hj : j < 6) (hb : l[j]? = some b) (h : b.toNat < 128) (hp : ∀ q, q < j → ∀ c, l[q]? = some c → 128 ≤ c.toNat) :
    (b.toNat = 0 ∧ 0 < j → rdV l = none) ∧ (¬ (b.toNat = 0 ∧ 0 < j) → rdV l = some (valN (l.take (j + 1)), j + 1)) := by
  have hs := rd_stop hj hb h hp
  have hl := lt_of_get hb
  have hbe : l[j] = b := by rw [List.getElem?_eq_getElem hl] at hb; simpa using hb
  have ht : l.take (j + 1) = l.take j ++ [b] := by rw [List.take_succ_eq_append_getElem hl, hbe]
  have hx : ∀ c ∈ l.take j, 128 ≤ c.toNat := fun c hc => by
    obtain ⟨q, hq, rfl⟩ := List.getElem_of_mem hc
    rw [List.length_take] at hq
    exact hp q (by omega) _ (by rw [List.getElem_take]; exact List.getElem?_eq_getElem (by omega))
  constructor
  · rintro ⟨h0, j0⟩
    rw [hs, if_neg]
    intro e
    rw [ht] at e
    rcases num_end _ _ _ e with q | q
    · exact q h0
    · have : (l.take j).length = 0 := by rw [q]; rfl
      rw [List.length_take] at this
      omega
  · intro hn
    rw [hs, if_pos]
    rw [ht]
    refine (num_val _ b hx h ?_).1
    by_cases h0 : b.toNat = 0
    · right
      have : j = 0 := by omega
      subst this
      rfl
    · exact .inl h0
/-- what the reader's panics are -/
def PE : Ending := .panicked [{ v := .iface 55 (.int .i64 10), recovered := false }]
def Num (l : List UInt8) (most : Int) (g : Nat) (w : World) (e : Ending) (w' : World) : Prop :=
  (∃ n k, rdV l = some (n, k) ∧ (n : Int) ≤ most ∧ e = .returned (.int .i64 n) ∧ Blk w' 53 g #[.string (BS (l.drop k))] ∧ Keeps (fun k => k = g) w w') ∨
  ((∀ n k, rdV l = some (n, k) → most < n) ∧ e = PE ∧ Keeps (fun k => k = g) w w')
theorem Num.no {l : List UInt8} {most : Int} {g : Nat} {w : World} (h : ∀ n k, rdV l = some (n, k) → most < n) : Num l most g w PE w := .inr ⟨h, rfl, Keeps.refl _ _⟩
theorem ext_drop (s : ByteArray) (k : Nat) : s.extract k s.size = BS (s.data.toList.drop k) := by
  apply ByteArray.ext
  rw [ByteArray.data_extract]
  apply Array.ext'
  rw [Array.toList_extract, List.extract_eq_take_drop]
  simp [BS]
  rw [List.take_of_length_le]
  simp

set_option maxRecDepth 20000 in
set_option maxHeartbeats 4000000 in
theorem pnumber_any (s : ByteArray) (most : Int) (g : Nat) (w : World) (hs : s.size ≤ 1000000000) (h : Blk w 53 g #[.string s]) :
    Calls Try.prog 35 #[.pointer (some ⟨g, 0, none⟩), .int .i64 most] w (Num s.data.toList most g w) := by
  have H := Lib.hid h
  have SZ := Lib.hid hs
  obtain ⟨l, hl⟩ : ∃ l, s.data.toList = l := ⟨_, rfl⟩
  have LL := Lib.hid (show l.length = s.size by rw [← hl]; simp)
  have GE := Lib.hid (show ∀ (j : Nat) (hj : j < s.size), l[j]? = some s[j] from fun j hj => by rw [← hl]; exact List.getElem?_eq_getElem (by simpa using hj))
  have ED := Lib.hid (fun k => ext_drop s k)
  have x0 := h.cell 0
  have f0 := h.free 0
  simp at x0
  rw [hl] at ED ⊢
  clear h hl
  by_cases q : 6 ≤ (s.size : Int)
  · have KE := Lib.hid (show 6 = 6 ∨ l.length ≤ 6 by rw [LL.out]; omega)
    go_enter Try.func35, Try.ntmps35
    go_wp2
    go_loopw [5, 14] (fun v u wr => ∃ j : Nat, u = .int .i64 j ∧ j ≤ 6 ∧ v = .int .i64 (valN (l.take j) : Nat) ∧ (∀ q, q < j → ∀ c, l[q]? = some c → 128 ≤ c.toNat) ∧ w = wr) (fun _ u _ => 6 - (intOf u).toNat)
    case atStart => exact ⟨0, rfl, by omega, by simp [valN], fun q h => by omega, rfl⟩
    case round =>
      obtain ⟨j, rfl, j1, rfl, hq, rfl⟩ := hrel
      have Q := Lib.hid hq
      clear hq
      by_cases go : j < 6
      · have b1 : decide ((j : Int) < 6) = true := by simp; omega
        have b1' : decide (j < 6) = true := by simp; omega
        have js : j < s.size := by omega
        have i3 : (j : Int) < (s.size : Int) := by omega
        have i0 : 0 ≤ (j : Int) := by omega
        have LJ := Lib.hid (GE.out j js)
        have TK := Lib.hid (show l.take (j + 1) = l.take j ++ [s[j]] by rw [List.take_add_one, LJ.out]; rfl)
        have c5 : 128 ^ j ≤ 34359738368 := Nat.pow_le_pow_right (show 0 < 128 by omega) (show j ≤ 5 by omega)
        have NV := valN_lt (l.take j)
        rw [List.length_take, Nat.min_eq_left (by rw [LL.out]; omega)] at NV
        have VN := Lib.hid (show valN (l.take (j + 1)) = valN (l.take j) + 128 ^ j * (s[j].toNat % 128) by rw [TK.out, valN_snoc, List.length_take, Nat.min_eq_left (by rw [LL.out]; omega)])
        obtain ⟨N, hN⟩ : ∃ N, valN (l.take j) = N := ⟨_, rfl⟩
        rw [hN] at NV VN ⊢
        obtain ⟨c, hc⟩ : ∃ c, s[j] = c := ⟨_, rfl⟩
        have HC := Lib.hid hc
        go_upto_region 7 with fail
        have e7 : (2 : Int) ^ (j * 7) = ((128 ^ j : Nat) : Int) := by rw [Nat.mul_comm j 7, Int.pow_mul]; push_cast; rfl
        have fd : 128 ^ j * (c.toNat % 128) ≤ 34359738368 * 127 := Nat.mul_le_mul c5 (by omega)
        rw [hc] at VN TK LJ
        obtain ⟨F, hF⟩ : ∃ F, 128 ^ j = F := ⟨_, rfl⟩
        rw [hF] at e7 fd VN NV
        have ef : ((F * (c.toNat % 128) : Nat) : Int) = (c.toNat : Int) % 128 * (F : Int) := by push_cast; rw [Int.mul_comm]
        have e8 : wrap64 ((N : Int) + wrap64 ((c.toNat : Int) % 128 * 2 ^ (j * 7))) = ((N + F * (c.toNat % 128) : Nat) : Int) := by
          rw [e7, ← ef]
          have a1 : wrap64 ((F * (c.toNat % 128) : Nat) : Int) = ((F * (c.toNat % 128) : Nat) : Int) := IntWalk.wrap64_in _ (by omega)
          rw [a1, ← Int.natCast_add]
          exact IntWalk.wrap64_in _ (by have := Nat.pow_le_pow_right (show 0 < 128 by omega) (show j ≤ 5 by omega); omega)
        rw [e8]
        obtain ⟨V, hV⟩ : ∃ V, N + F * (c.toNat % 128) = V := ⟨_, rfl⟩
        rw [hV] at VN ⊢
        have c8 : c.toNat < 256 := c.toNat_lt
        clear e7 e8 ef hF hN hc fd NV c5 hV
        by_cases z : 128 ≤ c.toNat
        · have d1 : decide (128 ≤ (c.toNat : Int)) = true := by simp; omega
          have d1' : decide (128 ≤ c.toNat) = true := by simp; omega
          have QN := Lib.hid (show ∀ q, q < j + 1 → ∀ c, l[q]? = some c → 128 ≤ c.toNat from fun q hq y hy => by
            rcases Nat.lt_or_ge q j with h | h
            · exact Q.out q h y hy
            · obtain rfl : q = j := by omega
              rw [LJ.out] at hy
              cases hy
              exact z)
          go_wp2
          go_roundw
          case rel => exact ⟨j + 1, by go_num, by omega, by rw [VN.out], QN.out, trivial⟩
          case measure => simp [intOf]; omega
        · have d1 : decide (128 ≤ (c.toNat : Int)) = false := by simp; omega
          have d1' : decide (128 ≤ c.toNat) = false := by simp; omega
          have RD := Lib.hid (rd_at (show j < 6 by omega) LJ.out (by omega) Q.out)
          rw [VN.out] at RD
          by_cases p1 : most < (V : Int)
          · have f1 : decide (most < (V : Int)) = true := decide_eq_true p1
            have NN := Lib.hid (show ∀ n k, rdV l = some (n, k) → most < n from fun n k e => by
              by_cases y : c.toNat = 0 ∧ 0 < j
              · rw [RD.out.1 y] at e; cases e
              · rw [RD.out.2 y] at e; cases e; exact p1)
            go_wp2
            exact ⟨rfl, .no NN.out⟩
          · have f1 : decide (most < (V : Int)) = false := decide_eq_false p1
            by_cases p2 : c.toNat = 0
            · have f2 : ((c.toNat : Int) == 0) = true := by simp [p2]
              by_cases p3 : 0 < j
              · have f3 : decide (0 < (j : Int)) = true := by simp; omega
                have f3' : decide (0 < j) = true := by simp; omega
                have R := Lib.hid (RD.out.1 ⟨p2, p3⟩)
                clear p2
                go_wp2
                exact ⟨rfl, .no fun n k e => by rw [R.out] at e; cases e⟩
              · have f3 : decide (0 < (j : Int)) = false := by simp; omega
                have f3' : decide (0 < j) = false := by simp; omega
                have R := Lib.hid (RD.out.2 (by omega))
                clear p2
                have v1 : IntKind.i64.wrap ((j : Int) + 1) = (j : Int) + 1 := IntWalk.i64_in _ (by omega)
                have s1 : 0 ≤ (j : Int) + 1 ∧ (j : Int) + 1 ≤ (s.size : Int) := by omega
                have s0 : 0 ≤ (j : Int) + 1 := by omega
                have s2 : (j : Int) + 1 ≤ (s.size : Int) := by omega
                have tn : ((j : Int) + 1).toNat = j + 1 := by omega
                have EX := Lib.hid (ED.out (j + 1))
                have VM := Lib.hid (show (V : Int) ≤ most by omega)
                go_wp2
                go_ret
                exact .inl ⟨V, j + 1, R.out, VM.out, rfl, by rw [← EX.out]; exact heap_setCell_same w g 0 _ _ _ H.out, (Keeps.refl (fun k => k = g) w).set (.inl rfl) _ _⟩
            · have f2 : ((c.toNat : Int) == 0) = false := by simp; omega
              have R := Lib.hid (RD.out.2 (by omega))
              have v1 : IntKind.i64.wrap ((j : Int) + 1) = (j : Int) + 1 := IntWalk.i64_in _ (by omega)
              have s1 : 0 ≤ (j : Int) + 1 ∧ (j : Int) + 1 ≤ (s.size : Int) := by omega
              have s0 : 0 ≤ (j : Int) + 1 := by omega
              have s2 : (j : Int) + 1 ≤ (s.size : Int) := by omega
              have tn : ((j : Int) + 1).toNat = j + 1 := by omega
              have EX := Lib.hid (ED.out (j + 1))
              have VM := Lib.hid (show (V : Int) ≤ most by omega)
              go_wp2
              go_ret
              exact .inl ⟨V, j + 1, R.out, VM.out, rfl, by rw [← EX.out]; exact heap_setCell_same w g 0 _ _ _ H.out, (Keeps.refl (fun k => k = g) w).set (.inl rfl) _ _⟩
      · have b1 : decide ((j : Int) < 6) = false := by simp; omega
        have b1' : decide (j < 6) = false := by simp; omega
        have R := Lib.hid (rd_none (l := l) (j := j) (by have := KE.out; omega) Q.out)
        go_wp2
        exact ⟨rfl, .no fun n k e => by rw [R.out] at e; cases e⟩

  · have KE := Lib.hid (show s.size = 6 ∨ l.length ≤ s.size by rw [LL.out]; omega)
    go_enter Try.func35, Try.ntmps35
    go_wp2
    go_loopw [5, 14] (fun v u wr => ∃ j : Nat, u = .int .i64 j ∧ j ≤ s.size ∧ v = .int .i64 (valN (l.take j) : Nat) ∧ (∀ q, q < j → ∀ c, l[q]? = some c → 128 ≤ c.toNat) ∧ w = wr) (fun _ u _ => 6 - (intOf u).toNat)
    case atStart => exact ⟨0, rfl, by omega, by simp [valN], fun q h => by omega, rfl⟩
    case round =>
      obtain ⟨j, rfl, j1, rfl, hq, rfl⟩ := hrel
      have Q := Lib.hid hq
      clear hq
      by_cases go : j < s.size
      · have b1 : decide ((j : Int) < (s.size : Int)) = true := by simp; omega
        have b1' : decide (j < s.size) = true := by simp; omega
        have js : j < s.size := by omega
        have i3 : (j : Int) < (s.size : Int) := by omega
        have i0 : 0 ≤ (j : Int) := by omega
        have LJ := Lib.hid (GE.out j js)
        have TK := Lib.hid (show l.take (j + 1) = l.take j ++ [s[j]] by rw [List.take_add_one, LJ.out]; rfl)
        have c5 : 128 ^ j ≤ 34359738368 := Nat.pow_le_pow_right (show 0 < 128 by omega) (show j ≤ 5 by omega)
        have NV := valN_lt (l.take j)
        rw [List.length_take, Nat.min_eq_left (by rw [LL.out]; omega)] at NV
        have VN := Lib.hid (show valN (l.take (j + 1)) = valN (l.take j) + 128 ^ j * (s[j].toNat % 128) by rw [TK.out, valN_snoc, List.length_take, Nat.min_eq_left (by rw [LL.out]; omega)])
        obtain ⟨N, hN⟩ : ∃ N, valN (l.take j) = N := ⟨_, rfl⟩
        rw [hN] at NV VN ⊢
        obtain ⟨c, hc⟩ : ∃ c, s[j] = c := ⟨_, rfl⟩
        have HC := Lib.hid hc
        go_upto_region 7 with fail
        have e7 : (2 : Int) ^ (j * 7) = ((128 ^ j : Nat) : Int) := by rw [Nat.mul_comm j 7, Int.pow_mul]; push_cast; rfl
        have fd : 128 ^ j * (c.toNat % 128) ≤ 34359738368 * 127 := Nat.mul_le_mul c5 (by omega)
        rw [hc] at VN TK LJ
        obtain ⟨F, hF⟩ : ∃ F, 128 ^ j = F := ⟨_, rfl⟩
        rw [hF] at e7 fd VN NV
        have ef : ((F * (c.toNat % 128) : Nat) : Int) = (c.toNat : Int) % 128 * (F : Int) := by push_cast; rw [Int.mul_comm]
        have e8 : wrap64 ((N : Int) + wrap64 ((c.toNat : Int) % 128 * 2 ^ (j * 7))) = ((N + F * (c.toNat % 128) : Nat) : Int) := by
          rw [e7, ← ef]
          have a1 : wrap64 ((F * (c.toNat % 128) : Nat) : Int) = ((F * (c.toNat % 128) : Nat) : Int) := IntWalk.wrap64_in _ (by omega)
          rw [a1, ← Int.natCast_add]
          exact IntWalk.wrap64_in _ (by have := Nat.pow_le_pow_right (show 0 < 128 by omega) (show j ≤ 5 by omega); omega)
        rw [e8]
        obtain ⟨V, hV⟩ : ∃ V, N + F * (c.toNat % 128) = V := ⟨_, rfl⟩
        rw [hV] at VN ⊢
        have c8 : c.toNat < 256 := c.toNat_lt
        clear e7 e8 ef hF hN hc fd NV c5 hV
        by_cases z : 128 ≤ c.toNat
        · have d1 : decide (128 ≤ (c.toNat : Int)) = true := by simp; omega
          have d1' : decide (128 ≤ c.toNat) = true := by simp; omega
          have QN := Lib.hid (show ∀ q, q < j + 1 → ∀ c, l[q]? = some c → 128 ≤ c.toNat from fun q hq y hy => by
            rcases Nat.lt_or_ge q j with h | h
            · exact Q.out q h y hy
            · obtain rfl : q = j := by omega
              rw [LJ.out] at hy
              cases hy
              exact z)
          go_wp2
          go_roundw
          case rel => exact ⟨j + 1, by go_num, by omega, by rw [VN.out], QN.out, trivial⟩
          case measure => simp [intOf]; omega
        · have d1 : decide (128 ≤ (c.toNat : Int)) = false := by simp; omega
          have d1' : decide (128 ≤ c.toNat) = false := by simp; omega
          have RD := Lib.hid (rd_at (show j < 6 by omega) LJ.out (by omega) Q.out)
          rw [VN.out] at RD
          by_cases p1 : most < (V : Int)
          · have f1 : decide (most < (V : Int)) = true := decide_eq_true p1
            have NN := Lib.hid (show ∀ n k, rdV l = some (n, k) → most < n from fun n k e => by
              by_cases y : c.toNat = 0 ∧ 0 < j
              · rw [RD.out.1 y] at e; cases e
              · rw [RD.out.2 y] at e; cases e; exact p1)
            go_wp2
            exact ⟨rfl, .no NN.out⟩
          · have f1 : decide (most < (V : Int)) = false := decide_eq_false p1
            by_cases p2 : c.toNat = 0
            · have f2 : ((c.toNat : Int) == 0) = true := by simp [p2]
              by_cases p3 : 0 < j
              · have f3 : decide (0 < (j : Int)) = true := by simp; omega
                have f3' : decide (0 < j) = true := by simp; omega
                have R := Lib.hid (RD.out.1 ⟨p2, p3⟩)
                clear p2
                go_wp2
                exact ⟨rfl, .no fun n k e => by rw [R.out] at e; cases e⟩
              · have f3 : decide (0 < (j : Int)) = false := by simp; omega
                have f3' : decide (0 < j) = false := by simp; omega
                have R := Lib.hid (RD.out.2 (by omega))
                clear p2
                have v1 : IntKind.i64.wrap ((j : Int) + 1) = (j : Int) + 1 := IntWalk.i64_in _ (by omega)
                have s1 : 0 ≤ (j : Int) + 1 ∧ (j : Int) + 1 ≤ (s.size : Int) := by omega
                have s0 : 0 ≤ (j : Int) + 1 := by omega
                have s2 : (j : Int) + 1 ≤ (s.size : Int) := by omega
                have tn : ((j : Int) + 1).toNat = j + 1 := by omega
                have EX := Lib.hid (ED.out (j + 1))
                have VM := Lib.hid (show (V : Int) ≤ most by omega)
                go_wp2
                go_ret
                exact .inl ⟨V, j + 1, R.out, VM.out, rfl, by rw [← EX.out]; exact heap_setCell_same w g 0 _ _ _ H.out, (Keeps.refl (fun k => k = g) w).set (.inl rfl) _ _⟩
            · have f2 : ((c.toNat : Int) == 0) = false := by simp; omega
              have R := Lib.hid (RD.out.2 (by omega))
              have v1 : IntKind.i64.wrap ((j : Int) + 1) = (j : Int) + 1 := IntWalk.i64_in _ (by omega)
              have s1 : 0 ≤ (j : Int) + 1 ∧ (j : Int) + 1 ≤ (s.size : Int) := by omega
              have s0 : 0 ≤ (j : Int) + 1 := by omega
              have s2 : (j : Int) + 1 ≤ (s.size : Int) := by omega
              have tn : ((j : Int) + 1).toNat = j + 1 := by omega
              have EX := Lib.hid (ED.out (j + 1))
              have VM := Lib.hid (show (V : Int) ≤ most by omega)
              go_wp2
              go_ret
              exact .inl ⟨V, j + 1, R.out, VM.out, rfl, by rw [← EX.out]; exact heap_setCell_same w g 0 _ _ _ H.out, (Keeps.refl (fun k => k = g) w).set (.inl rfl) _ _⟩
      · have b1 : decide ((j : Int) < (s.size : Int)) = false := by simp; omega
        have b1' : decide (j < s.size) = false := by simp; omega
        have R := Lib.hid (rd_none (l := l) (j := j) (by have := KE.out; omega) Q.out)
        go_wp2
        exact ⟨rfl, .no fun n k e => by rw [R.out] at e; cases e⟩

end Go.Proofs.Ytndhpihgeacdfaa

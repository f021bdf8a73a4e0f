/-
  The order of texts of numbers is the numbers' order. No Go in sight.
-/
import Derived.Test.YtenibpnifnlfeaaNat18
namespace Go.Proofs.Ytenibpnifnlfeaa
open Go.RowKit

theorem digB_lt {a b : Int} (a0 : 0 ≤ a) (a1 : a < 10) (b0 : 0 ≤ b) (b1 : b < 10) : digB a < digB b ↔ a < b := by
  have h1 := digB_toNat a0 a1
  have h2 := digB_toNat b0 b1
  rw [UInt8.lt_iff_toNat_lt]
  omega
theorem digB_eq {a b : Int} (a0 : 0 ≤ a) (a1 : a < 10) (b0 : 0 ≤ b) (b1 : b < 10) : digB a = digB b ↔ a = b := by
  have h1 := digB_toNat a0 a1
  have h2 := digB_toNat b0 b1
  rw [← UInt8.toNat_inj]
  omega
theorem lead_lt {P u v a b : Int} (hP : 0 < P) (u1 : u < P) (v0 : 0 ≤ v) (h : a < b) : u + P * a < v + P * b := by
  have : P * (a + 1) ≤ P * b := Int.mul_le_mul_of_nonneg_left (by omega) (by omega)
  rw [Int.mul_add] at this
  omega
theorem digs_rev {x : List Int} (h : Digs 10 x) : Digs 10 x.reverse := fun z hz => h z (List.mem_reverse.mp hz)
theorem val_lead (d : Int) (x : List Int) : val 10 (d :: x).reverse = val 10 x.reverse + 10 ^ x.length * d := by
  rw [List.reverse_cons, val_append, List.length_reverse]
  simp [val]
theorem lex_text : ∀ {x y : List Int}, x.length = y.length → Digs 10 x → Digs 10 y → Op.bytesLess (x.map digB) (y.map digB) = decide (val 10 x.reverse < val 10 y.reverse)
  | [], [], _, _, _ => by simp [Op.bytesLess, val]
  | [], _ :: _, h, _, _ => by simp at h
  | _ :: _, [], h, _, _ => by simp at h
  | a :: x, b :: y, h, dx, dy => by
    have hl : x.length = y.length := by simpa using h
    have ih := lex_text hl dx.tail dy.tail
    have hP := ipow_pos (B := 10) (by omega) x.length
    have x0 := val_nonneg (by omega) (digs_rev dx.tail)
    have x1 := val_lt (by omega) (digs_rev dx.tail)
    have y0 := val_nonneg (by omega) (digs_rev dy.tail)
    have y1 := val_lt (by omega) (digs_rev dy.tail)
    rw [List.length_reverse] at x1 y1
    rw [← hl] at y1
    rw [val_lead, val_lead, ← hl, List.map_cons, List.map_cons, Op.bytesLess, ih]
    have e1 := digB_lt dx.head.1 dx.head.2 dy.head.1 dy.head.2
    have e2 := digB_eq dx.head.1 dx.head.2 dy.head.1 dy.head.2
    rcases Int.lt_trichotomy a b with g | g | g
    · have h1 := lead_lt hP x1 y0 g
      rw [decide_eq_true h1, decide_eq_true (e1.mpr g)]; rfl
    · subst g
      rw [decide_eq_false (show ¬ digB a < digB a from fun k => by have := e1.mp k; omega), beq_self_eq_true, Bool.false_or, Bool.true_and]
      congr 1
      apply propext
      constructor <;> intro k <;> omega
    · have h1 := lead_lt hP y1 x0 g
      rw [decide_eq_false (show ¬ val 10 x.reverse + 10 ^ x.length * a < val 10 y.reverse + 10 ^ x.length * b by omega), decide_eq_false (show ¬ digB a < digB b from fun k => by have := e1.mp k; omega)]
      have : (digB a == digB b) = false := by rw [beq_eq_false_iff_ne]; intro k; have := e2.mp k; omega
      rw [this]; rfl
theorem text_lex {da db : List Int} {m n : Int} (ha : Is 10 da m) (hb : Is 10 db n) (hl : (textL da).length = (textL db).length) : Op.bytesLess (textL da) (textL db) = decide (m < n) := by
  rw [text_len, text_len] at hl
  rw [textL_shown, textL_shown, lex_text (by rw [List.length_reverse, List.length_reverse]; exact hl) (digs_rev (shown_digs ha.1)) (digs_rev (shown_digs hb.1)), List.reverse_reverse, List.reverse_reverse, shown_val ha, shown_val hb]
theorem text_longer {da db : List Int} {m n : Int} (ha : Is 10 da m) (hb : Is 10 db n) (hl : (textL da).length < (textL db).length) : m < n := by
  rw [text_len, text_len] at hl
  have h1 : shown db = db := by
    unfold shown at hl ⊢
    by_cases e : db = []
    · rw [if_pos e] at hl
      by_cases e' : da = []
      · rw [if_pos e'] at hl; simp at hl
      · rw [if_neg e'] at hl
        simp at hl
        exact absurd hl e'
    · rw [if_neg e]
  rw [h1] at hl
  have h2 := val_lt (by omega) (shown_digs ha.1)
  rw [shown_val ha] at h2
  have h3 := Is.pow_le (by omega) hb (fun e => by rw [e] at hl; simp at hl)
  have h4 := ipow_le (B := 10) (by omega) (show (shown da).length ≤ db.length - 1 by omega)
  omega
theorem text_same {da db : List Int} {m : Int} (ha : Is 10 da m) (hb : Is 10 db m) : textL da = textL db := by rw [is_unique (by omega) ha hb]
theorem text_other {da db : List Int} {m n : Int} (ha : Is 10 da m) (hb : Is 10 db n) (h : m ≠ n) : textL da ≠ textL db := fun e => h (by rw [← text_val ha, ← text_val hb, e])
end Go.Proofs.Ytenibpnifnlfeaa

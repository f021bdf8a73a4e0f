/-
  Texts of numbers: they are read back; a 0 ahead, or nothing, is none; their order is the numbers' order. No Go in sight.
-/
import Derived.Test.YtenibpnifnlfeaaNat17
namespace Go.Proofs.Ytenibpnifnlfeaa
open Go.RowKit

theorem byteD_digB {d : Int} (h0 : 0 ≤ d) (h1 : d < 10) : byteD (digB d) = d := by
  unfold byteD
  rw [digB_toNat h0 h1]
  omega
theorem map_back {dd : List Int} (h : Digs 10 dd) : (dd.map digB).map byteD = dd := by
  induction dd with
  | nil => rfl
  | cons d r ih => rw [List.map_cons, List.map_cons, ih h.tail, byteD_digB h.head.1 h.head.2]
theorem rev_map (dd : List Int) : (dd.reverse.map digB).reverse = dd.map digB := by simp
theorem numL_text {dd : List Int} (h : Digs 10 dd) (hne : dd ≠ []) : numL (textL dd) = dd := by
  unfold numL textL
  rw [if_neg hne, rev_map, map_back h]
/-- the digits that a text shows: one 0 of 0 -/
def shown (dd : List Int) : List Int := if dd = [] then [0] else dd
theorem textL_shown (dd : List Int) : textL dd = (shown dd).reverse.map digB := by
  unfold textL shown
  by_cases h : dd = []
  · rw [if_pos h, if_pos h]; rfl
  · rw [if_neg h, if_neg h]
theorem shown_digs {dd : List Int} (h : Digs 10 dd) : Digs 10 (shown dd) := by
  unfold shown
  by_cases e : dd = []
  · rw [if_pos e]; intro z hz; simp at hz; subst hz; omega
  · rw [if_neg e]; exact h
theorem shown_val {dd : List Int} {m : Int} (h : Is 10 dd m) : val 10 (shown dd) = m := by
  unfold shown
  by_cases e : dd = []
  · rw [if_pos e]; subst e; have := h.2.2; simp [val] at this ⊢; exact this
  · rw [if_neg e]; exact h.2.2
theorem shown_ne (dd : List Int) : shown dd ≠ [] := by
  unfold shown
  by_cases e : dd = []
  · rw [if_pos e]; simp
  · rw [if_neg e]; exact e
theorem text_len (dd : List Int) : (textL dd).length = (shown dd).length := by rw [textL_shown]; simp
theorem text_val {dd : List Int} {m : Int} (h : Is 10 dd m) : val 10 (numL (textL dd)) = m := by
  rw [textL_shown]
  unfold numL
  rw [rev_map, map_back (shown_digs h.1)]
  exact shown_val h
theorem text_good {dd : List Int} {m : Int} (h : Is 10 dd m) : GoodS (textL dd) := by
  refine ⟨?_, ?_, ?_⟩
  · intro e
    have := text_len dd
    rw [e] at this
    exact shown_ne dd (List.length_eq_zero_iff.mp this.symm)
  · intro c hc
    rw [textL_shown, List.mem_map] at hc
    obtain ⟨d, hd, rfl⟩ := hc
    have h1 := shown_digs h.1 d (List.mem_reverse.mp hd)
    have h2 := digB_toNat h1.1 h1.2
    omega
  · rintro ⟨h1, h2⟩
    have hne : dd ≠ [] := by
      intro e
      subst e
      rw [text_len] at h2
      simp [shown] at h2
    unfold textL at h1
    rw [if_neg hne, List.head?_map, List.head?_reverse] at h1
    cases hl : dd.getLast? with
    | none => rw [hl] at h1; simp at h1
    | some d =>
      rw [hl] at h1
      have h3 := h.1 d (List.mem_of_getLast? hl)
      have h4 := digB_toNat h3.1 h3.2
      simp at h1
      rw [h1] at h4
      have : d = 0 := by
        have h5 : ((48 : UInt8).toNat : Int) = 48 := rfl
        omega
      subst this
      exact h.2.1 hl
theorem text_short {dd : List Int} {m : Int} (h : Is 10 dd m) (hm : m < 4294967296 ^ 6) : (textL dd).length ≤ 100 := by
  have h1 : (4294967296 : Int) ^ 6 ≤ 10 ^ 58 := by decide +kernel
  have h2 := h.len_le (L := 58) (by omega) (by omega)
  rw [text_len]
  unfold shown
  by_cases e : dd = []
  · rw [if_pos e]; simp
  · rw [if_neg e]; omega
theorem str_short {S : ByteArray} {dd : List Int} {m : Int} (hS : S.data.toList = textL dd) (h : Is 10 dd m) (hm : m < 4294967296 ^ 6) : S.size ≤ 100 := by
  have h1 : S.data.toList.length = S.size := by simp
  rw [← h1, hS]
  exact text_short h hm
theorem zero_bad (l : List UInt8) (h : l ≠ []) : ¬ GoodS (48 :: l) := fun g => g.2.2 ⟨rfl, by
  cases l with
  | nil => exact absurd rfl h
  | cons => simp⟩
theorem nil_bad : ¬ GoodS [] := fun g => g.1 rfl
end Go.Proofs.Ytenibpnifnlfeaa

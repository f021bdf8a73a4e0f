/-
  The document's own task (regattaref10): Arrive refused, Cuts; each call in one contract.
-/
import Derived.Test.YthaoijmjkmgebaaTr3
namespace Go.Proofs.Ythaoijmjkmgebaa
open Go.RowKit

theorem r10arrive_arg (r : Nat) (w : World) (at_ n : Int) (h : ¬ ArrOk at_ n) : Calls Try.prog 20 #[.pointer (some ⟨r, 0, none⟩), .int .i64 at_, .int .i64 n] w fun z w' => z = .returned (.int .i64 1) ∧ w = w' := by
  by_cases h1 : at_ < 0
  · have t1 : decide (at_ < 0) = true := by simp; omega
    go_enter Try.func20, Try.ntmps20
    go_wp2
    go_ret
    exact ⟨rfl, rfl⟩
  · have t1 : decide (at_ < 0) = false := by simp; omega
    by_cases h2 : 1099511627776 < at_
    · have t2 : decide (1099511627776 < at_) = true := by simp; omega
      go_enter Try.func20, Try.ntmps20
      go_wp2
      go_ret
      exact ⟨rfl, rfl⟩
    · have t2 : decide (1099511627776 < at_) = false := by simp; omega
      by_cases h3 : n < 1
      · have t3 : decide (n < 1) = true := by simp; omega
        go_enter Try.func20, Try.ntmps20
        go_wp2
        go_ret
        exact ⟨rfl, rfl⟩
      · have t3 : decide (n < 1) = false := by simp; omega
        have h4 : 64 < n := by
          rcases Int.lt_or_le 64 n with q | q
          · exact q
          · exact absurd ⟨by omega, by omega, by omega, q⟩ h
        have t4 : decide (64 < n) = true := by simp; omega
        go_enter Try.func20, Try.ntmps20
        go_wp2
        go_ret
        exact ⟨rfl, rfl⟩
theorem r10arrive_cut (r : Nat) (F : Nat → Prop) (t : TS) (w : World) (at_ n : Int) (h : RT w r F t) (ha : ArrOk at_ n) (hcut : t.cut = true) : Calls Try.prog 20 #[.pointer (some ⟨r, 0, none⟩), .int .i64 at_, .int .i64 n] w fun z w' => z = .returned (.int .i64 13) ∧ w = w' := by
  obtain ⟨a0, a1, n0, n1⟩ := ha
  have t1 : decide (at_ < 0) = false := by simp; omega
  have t2 : decide (1099511627776 < at_) = false := by simp; omega
  have t3 : decide (n < 1) = false := by simp; omega
  have t4 : decide (64 < n) = false := by simp; omega
  obtain ⟨v, hb, _, _, _⟩ := h
  have c3 := hb.cell 3
  simp only [rtC, hcut] at c3
  change _ = some (Value.bool true) at c3
  clear hb hcut
  go_enter Try.func20, Try.ntmps20
  go_wp2
  go_ret
  exact ⟨rfl, rfl⟩
theorem r10arrive_full (r : Nat) (F : Nat → Prop) (t : TS) (w : World) (at_ n : Int) (h : RT w r F t) (g : GoodT t) (ha : ArrOk at_ n) (hcut : t.cut = false) (hf : 64 < (t.l.length : Int) + n) : Calls Try.prog 20 #[.pointer (some ⟨r, 0, none⟩), .int .i64 at_, .int .i64 n] w fun z w' => z = .returned (.int .i64 15) ∧ w = w' := by
  obtain ⟨a0, a1, n0, n1⟩ := ha
  have t1 : decide (at_ < 0) = false := by simp; omega
  have t2 : decide (1099511627776 < at_) = false := by simp; omega
  have t3 : decide (n < 1) = false := by simp; omega
  have t4 : decide (64 < n) = false := by simp; omega
  have few := g.few
  obtain ⟨v, hb, hq, _, _⟩ := h
  obtain ⟨a, cap, rfl, _, _⟩ := hq.val
  obtain ⟨ln, hln⟩ : ∃ ln, t.l.length = ln := ⟨_, rfl⟩
  rw [hln] at hb hf few
  have c3 := hb.cell 3
  have c6 := hb.cell 6
  simp only [rtC, hcut] at c3 c6
  change _ = some (Value.bool false) at c3
  change _ = some (Value.slice a ln cap) at c6
  have wl : IntKind.i64.wrap ((ln : Int) + n) = (ln : Int) + n := IntWalk.i64_in _ (by omega)
  have t5 : decide (64 < (ln : Int) + n) = true := by simp; omega
  clear hb hcut hq hln g few
  go_enter Try.func20, Try.ntmps20
  go_wp2
  go_ret
  exact ⟨rfl, rfl⟩
/-- Arrive -/
theorem r10arrive_any (r : Nat) (F : Nat → Prop) (t : TS) (w : World) (at_ n : Int) (h : RT w r F t) (g : GoodT t) (hc : t.came ≤ 100000) :
    Calls Try.prog 20 #[.pointer (some ⟨r, 0, none⟩), .int .i64 at_, .int .i64 n] w fun z w' => z = .returned (.int .i64 (arriveE t at_ n)) ∧ ∃ F', RT w' r F' (arriveT t at_ n) ∧ Moves F F' w w' := by
  have stay : ∀ c, arriveE t at_ n = c → c ≠ 0 → RT w r F (arriveT t at_ n) := fun c e k => by
    unfold arriveT
    rw [e, if_neg k]
    exact h
  by_cases h1 : ArrOk at_ n
  · cases h2 : t.cut
    · by_cases h3 : 64 < (t.l.length : Int) + n
      · have e : arriveE t at_ n = 15 := by unfold arriveE; rw [if_neg (by simpa using h1), if_neg (by simp [h2]), if_pos h3]
        rw [e]
        exact (r10arrive_full r F t w at_ n h g h1 h2 h3).mono fun z w' ⟨a, b⟩ => ⟨a, F, b ▸ stay 15 e (by decide), b ▸ Moves.refl h.lies⟩
      · have e : arriveE t at_ n = 0 := by unfold arriveE; rw [if_neg (by simpa using h1), if_neg (by simp [h2]), if_neg h3]
        rw [e]
        refine (r10arrive_yes r F t w at_ n h g hc h1 h2 (by omega)).mono fun z w' ⟨a, F', b, c⟩ => ⟨a, F', ?_, c⟩
        unfold arriveT
        rw [e, if_pos rfl]
        exact b
    · have e : arriveE t at_ n = 13 := by unfold arriveE; rw [if_neg (by simpa using h1), if_pos h2]
      rw [e]
      exact (r10arrive_cut r F t w at_ n h h1 h2).mono fun z w' ⟨a, b⟩ => ⟨a, F, b ▸ stay 13 e (by decide), b ▸ Moves.refl h.lies⟩
  · have e : arriveE t at_ n = 1 := by unfold arriveE; rw [if_pos h1]
    rw [e]
    exact (r10arrive_arg r w at_ n h1).mono fun z w' ⟨a, b⟩ => ⟨a, F, b ▸ stay 1 e (by decide), b ▸ Moves.refl h.lies⟩
/-- Ready -/
theorem r10ready_any (r : Nat) (F : Nat → Prop) (t : TS) (w : World) (at_ : Int) (h : RT w r F t) :
    Calls Try.prog 16 #[.pointer (some ⟨r, 0, none⟩), .int .i64 at_] w fun z w' => z = .returned (.tuple #[(readyS t at_).v, .bool (readyB t at_)]) ∧ Below w.heap.size w w' := by
  rcases hl : t.l with _ | ⟨s, rest⟩
  · have e : readyB t at_ = false := by simp [readyB, someB, hl]
    have e2 : readyS t at_ = sub0 := by unfold readyS; rw [e]; rfl
    rw [e, e2]
    exact r10ready_none r F t w at_ h hl
  · have eh : headS t = s := by simp [headS, hl]
    have es : someB t = true := by simp [someB, hl]
    cases he : t.early
    · by_cases ha : s.R ≤ at_
      · have e : readyB t at_ = true := by simp [readyB, es, eh, he, ha]
        have e2 : readyS t at_ = s := by unfold readyS; rw [e, if_pos rfl, eh]
        rw [e, e2]
        exact r10ready_yes r F t w at_ h s rest hl he ha
      · have e : readyB t at_ = false := by simp [readyB, es, eh, he, ha]
        have e2 : readyS t at_ = sub0 := by unfold readyS; rw [e]; rfl
        rw [e, e2]
        exact r10ready_no r F t w at_ h s rest hl he (by omega)
    · have e : readyB t at_ = true := by simp [readyB, es, eh, he]
      have e2 : readyS t at_ = s := by unfold readyS; rw [e, if_pos rfl, eh]
      rw [e, e2]
      exact r10ready_early r F t w at_ h s rest hl he
/-- Run -/
theorem r10run_any (r : Nat) (F : Nat → Prop) (t : TS) (w : World) (h : RT w r F t) (g : GoodT t) (hd : t.done ≤ 1000000000) :
    Calls Try.prog 14 #[.pointer (some ⟨r, 0, none⟩)] w fun z w' => z = .returned (.tuple #[(headS t).v, .bool (someB t)]) ∧ ∃ F', RT w' r F' (runT t) ∧ Moves F F' w w' := by
  rcases hl : t.l with _ | ⟨s, rest⟩
  · rw [show headS t = sub0 by simp [headS, hl], show someB t = false by simp [someB, hl], show runT t = t by unfold runT; rw [if_neg (by simp [hl])]]
    exact (r10run_none r F t w h hl).mono fun z w' ⟨a, b⟩ => ⟨a, F, h.below b, Moves.of b h.lies⟩
  · rw [show headS t = s by simp [headS, hl], show someB t = true by simp [someB, hl]]
    exact r10run_some r F t w h s rest hl hd g.done0
/-- Last -/
theorem r10last_any (r : Nat) (F : Nat → Prop) (t : TS) (w : World) (h : RT w r F t) (g : GoodT t) :
    Calls Try.prog 22 #[.pointer (some ⟨r, 0, none⟩)] w fun z w' => z = .returned (.tuple #[(lastS t).v, .bool (lastB t)]) ∧ Below w.heap.size w w' := by
  rcases Nat.eq_zero_or_pos t.l.length with h0 | h0
  · have hl : t.l = [] := List.eq_nil_of_length_eq_zero h0
    rw [show lastS t = t.ran by simp [lastS, hl], show lastB t = decide (0 < t.done) by simp [lastB, hl]]
    exact r10last_ran r F t w _ h hl rfl
  · obtain ⟨k, hk⟩ : ∃ k, t.l.length = k + 1 := ⟨t.l.length - 1, by omega⟩
    have hs : t.l[k]? = some (lastS t) := by
      unfold lastS
      rw [if_pos h0, List.getLastD_eq_getLast?, List.getLast?_eq_getElem?, hk, Nat.add_sub_cancel]
      rw [List.getElem?_eq_getElem (by omega)]
      rfl
    rw [show lastB t = true by simp [lastB, h0]]
    exact r10last_wait r F t w _ k h hk hs (by have := g.few; omega)
end Go.Proofs.Ythaoijmjkmgebaa

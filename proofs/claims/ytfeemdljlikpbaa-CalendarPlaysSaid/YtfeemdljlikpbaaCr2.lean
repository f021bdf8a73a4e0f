/-
  The document's own calendar (regattaref08): Due, Same: contracts.
-/
import Derived.Test.YtfeemdljlikpbaaCr1
namespace Go.Proofs.Ytfeemdljlikpbaa
open Go.RowKit

/-! ### Due -/
/-- how many are due by then: the first ones of the row -/
def dueN (es : List Ev) (t : Int) : Nat := (es.takeWhile (fun e => decide (e.d ≤ t))).length
theorem dueN_all (es : List Ev) (t : Int) (i : Nat) (hi : i ≤ es.length) (h : ∀ s ∈ es.take i, s.d ≤ t) (k : ∀ e, es[i]? = some e → t < e.d) : dueN es t = i := by
  induction es generalizing i with
  | nil => simp at hi; subst hi; rfl
  | cons x r ih =>
    unfold dueN
    rw [List.takeWhile_cons]
    cases i with
    | zero =>
      have := k x rfl
      rw [if_neg (by simp; omega)]
      rfl
    | succ i =>
      have := h x (by simp)
      rw [if_pos (by simpa using this), List.length_cons]
      congr 1
      exact ih i (by simpa using hi) (fun s hs => h s (by simp [hs])) (fun e he => k e (by simpa using he))
theorem dueN_le (es : List Ev) (t : Int) : dueN es t ≤ es.length := by
  unfold dueN
  induction es with
  | nil => simp
  | cons x r ih => rw [List.takeWhile_cons]; split <;> simp; omega
/-- the row that Due answers, and what is there then -/
def DueV (w : World) (g : Nat) (F : Nat → Prop) (es : List Ev) (n : Nat) (e : Ending) (w' : World) : Prop :=
  ∃ a cap, e = .returned (.slice a n cap) ∧ RowV w' a n cap (es.take n) ∧ (∀ ad : Addr, a = some ad → F ad.block ∧ ad.block ≠ g) ∧ RC w' g F (es.drop n) ∧ Keeps (fun k => k = g) w w'
set_option maxHeartbeats 2000000 in
theorem r8due_any (g : Nat) (F : Nat → Prop) (es : List Ev) (t : Int) (w : World) (h : RC w g F es) (hl : es.length ≤ 1000) :
    Calls Try.prog 15 #[.pointer (some ⟨g, 0, none⟩), .int .i64 t] w (DueV w g F es (dueN es t)) := by
  obtain ⟨a, cap, hb, hr, hF, hlt⟩ := h
  have R := Lib.hid hr
  have BK := Lib.hid hb
  have HF := Lib.hid hF
  have HL := Lib.hid hlt
  have c0 := hb.cell 0
  have f0 := hb.free 0
  simp at c0
  obtain ⟨len, hlen⟩ : ∃ len, es.length = len := ⟨_, rfl⟩
  rw [hlen] at R c0 hl BK
  have LN := Lib.hid hlen
  have lc := R.out.cap_le
  clear hb hr hlen hF hlt
  go_enter Try.func15, Try.ntmps15
  go_wp2
  go_loopw [5] (fun u wr => ∃ i : Nat, u = .int .i64 i ∧ i ≤ len ∧ (∀ s ∈ es.take i, s.d ≤ t) ∧ w = wr) (fun u _ => len - (intOf u).toNat)
  case atStart => exact ⟨0, rfl, by omega, by simp, rfl⟩
  case round =>
    obtain ⟨i, rfl, il, hno, rfl⟩ := hrel
    have NO := Lib.hid hno
    clear hno
    have END := Lib.hid (show (∀ e, es[i]? = some e → t < e.d) → dueN es t = i from fun k => dueN_all es t i (by rw [LN.out]; exact il) NO.out k)
    have SHUT := Lib.hid (show dueN es t = i → ∀ (A2 : Option Addr) (C2 : Nat), (∀ W : World, RowV W a len cap es → RowV W A2 (len - i) C2 (es.drop i)) → (∀ ad : Addr, A2 = some ad → ∃ ad0 : Addr, a = some ad0 ∧ ad.block = ad0.block ∧ ad.spot = ad0.spot) → (∀ ad0 : Addr, a = some ad0 → ∃ ad : Addr, A2 = some ad) → ∀ w2 : World, w2 = w.setCell ⟨g, 0, none⟩ (.slice A2 (len - i) C2) → DueV w g F es (dueN es t) (.returned (.slice a i cap)) w2 from fun e A2 C2 hrow hto hfrom w2 hw => by
      rw [e]
      have kk : Keeps (fun k => k = g) w w2 := by rw [hw]; exact (Keeps.refl (fun k => k = g) w).set (.inl rfl) 0 _
      have rr : RowV w2 a len cap es := RowF.keeps R.out (wideV es) (by decide) kk (fun ad e => (HL.out ad e).1)
      refine ⟨a, cap, rfl, rr.take il, fun ad e => ⟨(HF.out _).mpr (.inr ⟨ad, e, rfl⟩), (HL.out ad e).1⟩, ⟨A2, C2, ?_, ?_, fun k => (HF.out k).trans ⟨fun q => ?_, fun q => ?_⟩, fun ad e => ?_⟩, kk⟩
      · rw [hw, List.length_drop, LN.out]
        simpa using BK.out.setBE 0 (.slice A2 (len - i) C2)
      · rw [List.length_drop, LN.out]
        exact hrow w2 rr
      · rcases q with q | ⟨ad0, q, r⟩
        · exact .inl q
        · obtain ⟨ad, h2⟩ := hfrom ad0 q
          obtain ⟨ad1, h3, h4, _⟩ := hto ad h2
          rw [q] at h3
          cases h3
          exact .inr ⟨ad, h2, h4.trans r⟩
      · rcases q with q | ⟨ad, q, r⟩
        · exact .inl q
        · obtain ⟨ad1, h3, h4, _⟩ := hto ad q
          exact .inr ⟨ad1, h3, h4.symm.trans r⟩
      · obtain ⟨ad1, h3, h4, h5⟩ := hto ad e
        have h1 := HL.out _ h3
        exact ⟨by rw [h4]; exact h1.1, by rw [h4]; exact Nat.lt_of_lt_of_le h1.2.1 kk.size, h5.trans h1.2.2⟩)
    by_cases go : i < len
    · have b1 : decide (i < len) = true := by simp; omega
      have b2 : decide ((i : Int) < (len : Int)) = true := by simp; omega
      obtain ⟨x, hx⟩ := getV (es := es) (i := i) (by rw [LN.out]; exact go)
      have TS := Lib.hid (show es.take (i + 1) = es.take i ++ [x] by rw [List.take_add_one, hx]; rfl)
      obtain ⟨bl, ol, rfl, hat⟩ := R.out.at hx
      have x0 := hat.c0
      have HX := Lib.hid hx
      clear hx hat
      have i1 : (i : Int) < (len : Int) := by omega
      have i2 : 0 ≤ (i : Int) := by omega
      by_cases q : x.d ≤ t
      · have t1 : decide (x.d ≤ t) = true := by simp [q]
        have S := Lib.hid (show ∀ s ∈ es.take (i + 1), s.d ≤ t from fun z hz => by
          rw [TS.out] at hz
          rcases List.mem_append.mp hz with y | y
          · exact NO.out z y
          · rw [List.mem_singleton.mp y]; exact q)
        clear q
        go_wp2
        go_roundw
        case rel => exact ⟨i + 1, by go_num, by omega, S.out, by trivial⟩
        case measure => simp [intOf]; omega
      · have t1 : decide (x.d ≤ t) = false := by simp; omega
        have DN := Lib.hid (END.out (fun e he => by rw [HX.out] at he; cases he; omega))
        clear q
        have cz : ¬ cap = i := by omega
        have cz' : ¬ i = cap := by omega
        go_wp2
        go_ret
        exact SHUT.out DN.out (some ⟨bl, ol + i * 3, none⟩) (cap - i) (fun W h => by unfold RowV; rw [List.map_drop]; exact RowF.dropped h il) (fun ad e => by cases e; exact ⟨_, rfl, rfl, rfl⟩) (fun _ _ => ⟨_, rfl⟩) _ rfl
    · have b1 : decide (i < len) = false := by simp; omega
      have b2 : decide ((i : Int) < (len : Int)) = false := by simp; omega
      obtain rfl : i = len := by omega
      have DN := Lib.hid (END.out (fun e he => by rw [List.getElem?_eq_none (by rw [LN.out]; omega)] at he; cases he))
      have ED := Lib.hid (show es.drop i = [] from List.drop_eq_nil_of_le (by rw [LN.out]; omega))
      rcases a with _ | ad
      · obtain ⟨z, z', z''⟩ := RowF.none_cap R.out
        subst z
        subst z'
        go_wp2
        go_ret
        exact SHUT.out DN.out none 0 (fun W h => by rw [ED.out]; exact RowV.nil) (fun ad e => by cases e) (fun _ e => by cases e) _ rfl
      · obtain ⟨bo, oo, sp⟩ := ad
        obtain rfl : sp = none := (HL.out _ rfl).2.2
        have NIL := Lib.hid (show ∀ (W : World) (x : Addr) (c : Nat), c ≤ 9223372036854775807 → RowV W (some x) (i - i) c (es.drop i) from fun W x c hc => by
          rw [ED.out, Nat.sub_self]
          exact ⟨rfl, by omega, hc, (fun e => by cases e), fun j hj => by omega⟩)
        by_cases cz : cap = i
        · subst cz
          go_wp2
          go_ret
          exact SHUT.out DN.out (some ⟨bo, oo, none⟩) 0 (fun W h => NIL.out W _ _ (by omega)) (fun x e => by cases e; exact ⟨_, rfl, rfl, rfl⟩) (fun _ _ => ⟨_, rfl⟩) _ (by simp)
        · have cz' : ¬ i = cap := by omega
          go_wp2
          go_ret
          exact SHUT.out DN.out (some ⟨bo, oo + i * 3, none⟩) (cap - i) (fun W h => NIL.out W _ _ (by omega)) (fun x e => by cases e; exact ⟨_, rfl, rfl, rfl⟩) (fun _ _ => ⟨_, rfl⟩) _ (by simp)
end Go.Proofs.Ytfeemdljlikpbaa

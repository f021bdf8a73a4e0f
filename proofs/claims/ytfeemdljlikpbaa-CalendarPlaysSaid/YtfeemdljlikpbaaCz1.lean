/-
  Package calendar as landed: its small functions, what a calendar in memory is; New, Len, Next, At: contracts.
-/
import Derived.Test.YtfeemdljlikpbaaCz0
import Derived.Conc.MuLone
namespace Go.Proofs.Ytfeemdljlikpbaa
open Go.RowKit Go.Maps

theorem earlier_any (a b : Ev) (w : World) : Calls Try.prog 24 #[a.v, b.v] w fun e w' => e = .returned (.bool (earlB a b)) ∧ Below w.heap.size w w' := by
  show Calls Try.prog 24 #[.agg #[.int .i64 a.d, .int .i64 a.i, .int .i64 a.k], .agg #[.int .i64 b.d, .int .i64 b.i, .int .i64 b.k]] w _
  have B2 := Lib.hid (wbox2 w (Obj.cells #[.int .i64 a.d, .int .i64 a.i, .int .i64 a.k] 31) (Obj.cells #[.int .i64 b.d, .int .i64 b.i, .int .i64 b.k] 31))
  go_enter Try.func24, Try.ntmps24
  go_wp2
  go_ret
  exact ⟨rfl, B2.out⟩
theorem lessEarl : LessE 24 earlB := ⟨earlier_any, fun args w => Go.MuLone.run_callFunc_enter (P := Try.prog) Try.func24 (by kernel_rfl) rfl args w⟩
theorem number_any (i k : Int) (w : World) (h0 : 0 ≤ i) (h1 : i ≤ 1023) (h2 : 0 ≤ k) (h3 : k ≤ 7) : Calls Try.prog 28 #[.int .i64 i, .int .i64 k] w fun e w' => e = .returned (.int .i64 (k * 1024 + i)) ∧ w = w' := by
  go_enter Try.func28, Try.ntmps28
  go_wp2
  go_ret
  exact ⟨rfl, rfl⟩
def mayB (i k : Int) : Bool := decide (0 ≤ i ∧ i ≤ 1023 ∧ 0 ≤ k ∧ k ≤ 7)
theorem may_any (i k : Int) (w : World) : Calls Try.prog 25 #[.int .i64 i, .int .i64 k] w fun e w' => e = .returned (.bool (mayB i k)) ∧ w = w' := by
  by_cases h1 : 0 ≤ i
  · have t1 : decide (0 ≤ i) = true := by simp; omega
    by_cases h2 : i < 1024
    · have t2 : decide (i < 1024) = true := by simp; omega
      by_cases h3 : 0 ≤ k
      · have t3 : decide (0 ≤ k) = true := by simp; omega
        have V := Lib.hid (show decide (k < 8) = mayB i k by unfold mayB; rw [decide_eq_decide]; omega)
        clear h1 h2 h3
        go_enter Try.func25, Try.ntmps25
        go_wp2
        go_ret
        exact ⟨ret_b V.out, rfl⟩
      · have t3 : decide (0 ≤ k) = false := by simp; omega
        have V := Lib.hid (show false = mayB i k by unfold mayB; symm; rw [decide_eq_false_iff_not]; omega)
        clear h1 h2 h3
        go_enter Try.func25, Try.ntmps25
        go_wp2
        go_ret
        exact ⟨ret_b V.out, rfl⟩
    · have t2 : decide (i < 1024) = false := by simp; omega
      have V := Lib.hid (show false = mayB i k by unfold mayB; symm; rw [decide_eq_false_iff_not]; omega)
      clear h1 h2
      go_enter Try.func25, Try.ntmps25
      go_wp2
      go_ret
      exact ⟨ret_b V.out, rfl⟩
  · have t1 : decide (0 ≤ i) = false := by simp; omega
    have V := Lib.hid (show false = mayB i k by unfold mayB; symm; rw [decide_eq_false_iff_not]; omega)
    clear h1
    go_enter Try.func25, Try.ntmps25
    go_wp2
    go_ret
    exact ⟨ret_b V.out, rfl⟩
/-- the heap within, read off the value -/
theorem within_run (p : Value) (w : World) : (Instr.field 51 (.agg #[p]) 0).run Try.prog w = .ok p w := by kernel_rfl
theorem all_any (g : Nat) (p : Value) (q : Option Addr) (hp : p = .pointer q) (w : World) (hb : Blk w 53 g #[p]) : Calls Try.prog 26 #[.pointer (some ⟨g, 0, none⟩)] w fun e w' => e = .returned (.agg #[p]) ∧ Below w.heap.size w w' := by
  subst hp
  obtain ⟨W1, hW1⟩ : ∃ W1, w.alloc (.cells #[.pointer none] 51) = W1 := ⟨_, rfl⟩
  have B1 := Lib.hid (show Below w.heap.size w W1 by rw [← hW1]; exact wbox _ _)
  have X1 := Lib.hid (show Blk W1 51 w.heap.size #[.pointer none] by rw [← hW1]; exact Blk.new _ _ _)
  have c0 := (hb.below B1.out).cell 0
  have x0 := X1.out.cell 0
  have fx : ∀ o, W1.frozen? ⟨w.heap.size, o, none⟩ = false := fun o => X1.out.free o
  simp at c0 x0
  clear hb
  go_enter Try.func26, Try.ntmps26
  go_wp2
  exact bodyPost_ret (v := .agg #[.pointer q]) (by simp [results, Try.results26, go_sem, x0]) rfl ⟨rfl, B1.out.setCell (by simp) _⟩
/-- package calendar's calendar at block g, in the blocks of F, holds these events -/
def Hp8 (w : World) (g : Nat) (F : Nat → Prop) (es : List Ev) : Prop :=
  ∃ b FH, Blk w 53 g #[.pointer (some ⟨b, 0, none⟩)] ∧ Hp7E 24 70 earlB w b FH (es.map teV) ∧ ¬ FH g ∧ (∀ k, F k ↔ k = g ∨ FH k) ∧ OwnV es
theorem Hp8.lies {w : World} {g : Nat} {F : Nat → Prop} {es : List Ev} (h : Hp8 w g F es) : Lies F w := by
  obtain ⟨b, FH, hb, hh, _, hF, _⟩ := h
  intro k q
  rcases (hF k).mp q with e | e
  · rw [e]; exact hb.lt
  · exact hh.lies k e
theorem Hp8.keeps {w w' : World} {g : Nat} {F G : Nat → Prop} {es : List Ev} (h : Hp8 w g F es) (k : Keeps G w w') (ap : Apart F G) : Hp8 w' g F es := by
  obtain ⟨b, FH, hb, hh, hn, hF, ho⟩ := h
  exact ⟨b, FH, hb.keeps k (ap g ((hF g).mpr (.inl rfl))), hh.keeps k (fun x q => ap x ((hF x).mpr (.inr q))), hn, hF, ho⟩
theorem Hp8.below {w w' : World} {g : Nat} {F : Nat → Prop} {es : List Ev} (h : Hp8 w g F es) (k : Below w.heap.size w w') : Hp8 w' g F es := h.keeps (G := fun _ => False) (Keeps.of k) (fun _ _ q => q)
theorem Hp8.stay {w w' : World} {g : Nat} {F : Nat → Prop} {es : List Ev} (h : Hp8 w g F es) (k : Below w.heap.size w w') : StaysC Hp8 w g F es w' := ⟨F, h.below k, Moves.of k h.lies⟩
/-- what the heap within did -/
theorem Hp8.moved {w w' : World} {g b : Nat} {F FH : Nat → Prop} {es : List Ev} {us : List Te} (hb : Blk w 53 g #[.pointer (some ⟨b, 0, none⟩)]) (hn : ¬ FH g) (hF : ∀ k, F k ↔ k = g ∨ FH k)
    (h : Stay7E 24 70 earlB w b FH us w') (p : us.Perm (es.map teV)) (ho : OwnV es) : StaysC Hp8 w g F es w' := by
  obtain ⟨FH', h1, m⟩ := h
  have gl := hb.lt
  have hn' : ¬ FH' g := fun q => by
    rcases m.grow g q with r | r
    · exact hn r
    · omega
  refine ⟨fun k => k = g ∨ FH' k, ⟨b, FH', hb.keeps m.keeps hn, h1.perm p, hn', fun _ => Iff.rfl, ho⟩, ⟨⟨m.keeps.os, m.keeps.tape, m.keeps.output, m.keeps.size, fun k hk hf => m.keeps.block k hk (fun q => hf ((hF k).mpr (.inr q)))⟩, fun k q => ?_, fun k q => ?_⟩⟩
  · rcases q with e | e
    · exact .inl ((hF k).mpr (.inl e))
    · exact (m.grow k e).imp (fun r => (hF k).mpr (.inr r)) id
  · rcases q with e | e
    · rw [e]; exact Nat.lt_of_lt_of_le gl m.keeps.size
    · exact m.lt k e
theorem StaysC.from {w w1 w' : World} {g : Nat} {F : Nat → Prop} {es : List Ev} (k : Below w.heap.size w w1) (hl : Lies F w) (h : StaysC Hp8 w1 g F es w') : StaysC Hp8 w g F es w' := by
  obtain ⟨F', h1, m⟩ := h
  exact ⟨F', h1, (Moves.of k hl).trans m⟩
theorem cnew_any (w : World) : Calls Try.prog 9 #[] w fun z w' => ∃ g F, z = .returned (.pointer (some ⟨g, 0, none⟩)) ∧ Hp8 w' g F [] ∧ From F w.heap.size ∧ Below w.heap.size w w' := by
  go_enter Try.func9, Try.ntmps9
  go_wp2_with fail
  refine (hnew_anyE 24 earlB _).mono ?_
  rintro e w1 ⟨b, FH, rfl, hh, hF, hb⟩
  have H := Lib.hid hh
  have HF := Lib.hid hF
  have B := Lib.hid hb
  clear hh hF hb
  go_wp2
  go_ret
  refine ⟨w1.heap.size, fun k => k = w1.heap.size ∨ FH k, rfl, ⟨b, FH, Blk.new _ _ _, H.out.keeps (G := fun _ => False) (Keeps.of (wbox _ _)) (fun _ _ q => q), (fun q => Nat.lt_irrefl _ (H.out.lies _ q)), fun _ => Iff.rfl, ownV_nil⟩, fun k q => ?_, below_next B.out (wbox _ _)⟩
  rcases q with e | e
  · rw [e]; exact B.out.size
  · exact HF.out k e
theorem clen_any (g : Nat) (F : Nat → Prop) (es : List Ev) (w : World) (h : Hp8 w g F es) : Calls Try.prog 21 #[.pointer (some ⟨g, 0, none⟩)] w fun z w' => z = .returned (.int .i64 (es.length : Int)) ∧ StaysC Hp8 w g F es w' := by
  have hw := within_run
  have H := Lib.hid h
  obtain ⟨b, FH, hb, hh, hn, hF, ho⟩ := h
  have BK := Lib.hid hb
  have HH := Lib.hid hh
  have HN := Lib.hid hn
  have HF := Lib.hid hF
  have HO := Lib.hid ho
  clear hb hh hn hF ho
  go_enter Try.func21, Try.ntmps21
  go_wp2_with fail
  refine (all_any g _ _ rfl _ BK.out).mono ?_
  rintro e w1 ⟨rfl, hb⟩
  have B1 := Lib.hid hb
  have H1 := Lib.hid (HH.out.keeps (G := fun _ => False) (Keeps.of hb) (fun _ _ q => q))
  clear hb
  go_wp2_with fail
  refine (hlen_anyE b FH _ _ H1.out).mono ?_
  rintro e w2 ⟨rfl, hs⟩
  have S := Lib.hid (StaysC.from B1.out H.out.lies (Hp8.moved (BK.out.below B1.out) HN.out HF.out hs (List.Perm.refl _) HO.out))
  clear hs
  go_wp2
  go_ret
  exact ⟨rfl, S.out⟩
end Go.Proofs.Ytfeemdljlikpbaa

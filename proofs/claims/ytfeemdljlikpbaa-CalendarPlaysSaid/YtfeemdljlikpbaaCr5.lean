/-
  The document's own calendar (regattaref08): Put: contract.
-/
import Derived.Test.YtfeemdljlikpbaaCr4
namespace Go.Proofs.Ytfeemdljlikpbaa
open Go.RowKit

/-- what may not be put -/
def BadE (e : Ev) : Prop := e.i < 0 ∨ 1023 < e.i ∨ e.k < 0 ∨ 7 < e.k ∨ e.d < 0
instance (e : Ev) : Decidable (BadE e) := by unfold BadE; infer_instance
/-- to its place in the order -/
def insV (x : Ev) : List Ev → List Ev
  | [] => [x]
  | y :: r => if befB x y then x :: y :: r else y :: insV x r
theorem insV_put (x y : Ev) (r : List Ev) (h : befB x y = true) : insV x (y :: r) = x :: y :: r := by unfold insV; rw [if_pos h]
theorem insV_on (x y : Ev) (r : List Ev) (h : befB x y = false) : insV x (y :: r) = y :: insV x r := by
  show (if befB x y then x :: y :: r else y :: insV x r) = y :: insV x r
  rw [if_neg (by rw [h]; decide)]
theorem insV_perm (x : Ev) (l : List Ev) : (insV x l).Perm (x :: l) := by
  induction l with
  | nil => exact List.Perm.refl _
  | cons y r ih =>
    unfold insV
    split
    · exact List.Perm.refl _
    · exact (List.Perm.cons y ih).trans (List.Perm.swap x y r)
theorem insV_len (x : Ev) (l : List Ev) : (insV x l).length = l.length + 1 := by rw [(insV_perm x l).length_eq]; rfl
/-- a new row is stored in the calendar -/
theorem RC.store {w w4 : World} {g base cap2 : Nat} {F : Nat → Prop} {es es' : List Ev} {a2 : Option Addr} (h : RC w g F es) (hk : Keeps F w w4) (v : Value) (hb : Blk w4 29 g #[v])
    (ho : w4.ownsRow base 31 3 (.slice a2 es'.length cap2) es'.length (es'.map Ev.cs).flatten) (hbase : w.heap.size ≤ base) (w' : World) (hw : w' = w4.setCell ⟨g, 0, none⟩ (.slice a2 es'.length cap2)) :
    ∃ F', RC w' g F' es' ∧ Moves F F' w w' := by
  have fg : F g := by obtain ⟨_, _, _, _, q, _⟩ := h; exact (q g).mpr (.inl rfl)
  have gl : g < w.heap.size := h.lies g fg
  obtain ⟨a, cap, hv, hr, hf⟩ := rowV_of_owns ho rfl
  cases hv
  have AD := owns_addr ho
  have KW : Keeps (fun x => x = g) w4 w' := by rw [hw]; exact (Keeps.refl (fun x => x = g) w4).set (.inl rfl) 0 _
  have BG : Blk w' 29 g #[.slice a2 es'.length cap2] := by rw [hw]; simpa using hb.setBE 0 (.slice a2 es'.length cap2)
  refine ⟨(fun x => x = g ∨ ∃ ad : Addr, a2 = some ad ∧ ad.block = x), ⟨a2, cap2, BG, RowF.keeps hr (wideV _) (by decide) KW (fun ad e => ?_), fun _ => Iff.rfl, fun ad e => ?_⟩, ⟨?_, fun x q => ?_, fun x q => ?_⟩⟩
  · have := AD ad e
    show ¬ ad.block = g
    omega
  · have := AD ad e
    exact ⟨by omega, Nat.lt_of_lt_of_le this.2.1 KW.size, this.2.2⟩
  · rw [hw]
    exact hk.set (.inl fg) 0 _
  · rcases q with q | ⟨ad, q, q'⟩
    · subst q; exact .inl fg
    · have := AD ad q
      exact .inr (by omega)
  · rcases q with q | ⟨ad, q, q'⟩
    · subst q; exact BG.lt
    · have := AD ad q
      exact q' ▸ Nat.lt_of_lt_of_le this.2.1 KW.size
set_option maxHeartbeats 2000000 in
theorem r8put_bad (g : Nat) (e : Ev) (w : World) (hb : BadE e) :
    Calls Try.prog 20 #[.pointer (some ⟨g, 0, none⟩), .agg #[.int .i64 e.d, .int .i64 e.i, .int .i64 e.k]] w fun z w' => z = .returned (.int .i64 1) ∧ Below w.heap.size w w' := by
  have B1 := Lib.hid (wbox w (Obj.cells #[.int .i64 e.d, .int .i64 e.i, .int .i64 e.k] 31))
  unfold BadE at hb
  by_cases h1 : e.i < 0
  · have t1 : decide (e.i < 0) = true := by simp [h1]
    clear hb h1
    go_enter Try.func20, Try.ntmps20
    go_wp2
    go_ret
    exact ⟨rfl, B1.out⟩
  · have t1 : decide (e.i < 0) = false := by simp; omega
    by_cases h2 : 1023 < e.i
    · have t2 : decide (1023 < e.i) = true := by simp [h2]
      clear hb h1 h2
      go_enter Try.func20, Try.ntmps20
      go_wp2
      go_ret
      exact ⟨rfl, B1.out⟩
    · have t2 : decide (1023 < e.i) = false := by simp; omega
      by_cases h3 : e.k < 0
      · have t3 : decide (e.k < 0) = true := by simp [h3]
        clear hb h1 h2 h3
        go_enter Try.func20, Try.ntmps20
        go_wp2
        go_ret
        exact ⟨rfl, B1.out⟩
      · have t3 : decide (e.k < 0) = false := by simp; omega
        by_cases h4 : 7 < e.k
        · have t4 : decide (7 < e.k) = true := by simp [h4]
          clear hb h1 h2 h3 h4
          go_enter Try.func20, Try.ntmps20
          go_wp2
          go_ret
          exact ⟨rfl, B1.out⟩
        · have t4 : decide (7 < e.k) = false := by simp; omega
          have t5 : decide (e.d < 0) = true := by simp; omega
          clear hb h1 h2 h3 h4
          go_enter Try.func20, Try.ntmps20
          go_wp2
          go_ret
          exact ⟨rfl, B1.out⟩
set_option maxHeartbeats 2000000 in
theorem r8put_there (g : Nat) (F : Nat → Prop) (es : List Ev) (e : Ev) (w : World) (h : RC w g F es) (hl : es.length ≤ 1000) (hb : ¬ BadE e) (hp : 0 ≤ placeV es e.i e.k) :
    Calls Try.prog 20 #[.pointer (some ⟨g, 0, none⟩), .agg #[.int .i64 e.d, .int .i64 e.i, .int .i64 e.k]] w fun z w' => z = .returned (.int .i64 14) ∧ Below w.heap.size w w' := by
  unfold BadE at hb
  obtain ⟨W1, hW1⟩ : ∃ W1, w.alloc (.cells #[.int .i64 e.d, .int .i64 e.i, .int .i64 e.k] 31) = W1 := ⟨_, rfl⟩
  have B1 := Lib.hid (show Below w.heap.size w W1 by rw [← hW1]; exact wbox _ _)
  have N1 := Lib.hid (show Blk W1 31 w.heap.size #[.int .i64 e.d, .int .i64 e.i, .int .i64 e.k] by rw [← hW1]; exact Blk.new w _ _)
  have FI := Lib.hid (r8find_any g F es e.i e.k W1 (h.below B1.out) hl)
  obtain ⟨p, hpp⟩ : ∃ p, placeV es e.i e.k = p := ⟨_, rfl⟩
  rw [hpp] at FI hp
  have t1 : decide (e.i < 0) = false := by simp; omega
  have t2 : decide (1023 < e.i) = false := by simp; omega
  have t3 : decide (e.k < 0) = false := by simp; omega
  have t4 : decide (7 < e.k) = false := by simp; omega
  have t5 : decide (e.d < 0) = false := by simp; omega
  have t6 : decide (0 ≤ p) = true := by simp [hp]
  have x0 := N1.out.cell 0
  have x1 := N1.out.cell 1
  have x2 := N1.out.cell 2
  simp at x0 x1 x2
  clear h hl hb hp hpp
  go_enter Try.func20, Try.ntmps20
  go_wp2_with fail
  refine FI.out.mono ?_
  rintro e w1 ⟨rfl, rfl⟩
  go_wp2
  go_ret
  exact ⟨rfl, B1.out⟩
end Go.Proofs.Ytfeemdljlikpbaa

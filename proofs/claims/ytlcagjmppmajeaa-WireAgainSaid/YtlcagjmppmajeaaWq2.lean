/-
  Package wire's first: the closure that tells the next number: contract.
-/
import Derived.Test.YtlcagjmppmajeaaWq1
namespace Go.Proofs.Ytlcagjmppmajeaa
open Go.RowKit

/-- what is left, and whether all was well, in two boxes -/
structure RdAt (w : World) (pa pb : Nat) (s : Rd) : Prop where
  str : Blk w 9 pa #[.string (BS s.1)]
  ok : Blk w 4 pb #[.bool s.2]
def Two (pa pb : Nat) : Nat → Prop := fun k => k = pa ∨ k = pb
def NextO (s : Rd) (most : Int) (pa pb : Nat) (w : World) (e : Ending) (w' : World) : Prop := e = .returned (.int .i64 (nx s most).1) ∧ RdAt w' pa pb (nx s most).2 ∧ Keeps (Two pa pb) w w'
theorem set_blk {w : World} {T : TypeId} {g : Nat} {x : Value} (h : Blk w T g #[x]) (y : Value) : Blk (w.setCell ⟨g, 0, none⟩ y) T g #[y] := heap_setCell_same w g 0 _ _ _ h
theorem far_blk {w : World} {T : TypeId} {g : Nat} {cs : Array Value} (h : Blk w T g cs) {p : Addr} (hp : g ≠ p.block) (u : Value) : Blk (w.setCell p u) T g cs := (Below.heap_setCell w p u g hp).trans h

set_option maxRecDepth 20000 in
set_option maxHeartbeats 4000000 in
theorem wnext_any (s : Rd) (most : Int) (pa pb : Nat) (w : World) (hne : pa ≠ pb) (hl : s.1.length ≤ 1000000000) (h : RdAt w pa pb s) :
    Calls Try.prog 27 #[.int .i64 most, .pointer (some ⟨pa, 0, none⟩), .pointer (some ⟨pb, 0, none⟩)] w (NextO s most pa pb w) := by
  obtain ⟨l, ok⟩ := s
  obtain ⟨h1, h2⟩ := h
  have A := Lib.hid h1
  have B := Lib.hid h2
  have NE := Lib.hid hne
  have LL := Lib.hid hl
  have x0 := h1.cell 0
  have f0 := h1.free 0
  have y0 := h2.cell 0
  have z0 := h2.free 0
  simp at x0 y0
  clear h1 h2 hne hl
  go_enter Try.func27, Try.ntmps27
  go_wp2_with fail
  refine (wnumber_any l w LL.out).mono ?_
  rintro e w1 ⟨rfl, rfl⟩
  have N5 := Lib.hid (n5_le l)
  have NX := Lib.hid (show nx (l, ok) most = if (n5 l).2 = 0 ∨ most < (n5 l).1 then (0, ([], false)) else (((n5 l).1 : Int), (l.drop (n5 l).2, ok)) from rfl)
  obtain ⟨n, k, hnk⟩ : ∃ n k, n5 l = (n, k) := ⟨_, _, rfl⟩
  rw [hnk] at NX N5 ⊢
  clear hnk
  simp only at NX N5 ⊢
  have K1 := Lib.hid (show k ≤ l.length from N5.out.2.1)
  have K5 := Lib.hid (show k ≤ 5 from N5.out.1)
  have y1 := (far_blk (p := ⟨pa, 0, none⟩) B.out (Ne.symm NE.out) (.string ⟨#[]⟩)).cell 0
  have z1 := (far_blk (p := ⟨pa, 0, none⟩) B.out (Ne.symm NE.out) (.string ⟨#[]⟩)).free 0
  simp at y1
  by_cases k0 : k = 0
  · have V := Lib.hid (show NextO (l, ok) most pa pb w1 (.returned (.int .i64 0)) ((w1.setCell ⟨pa, 0, none⟩ (.string (BS []))).setCell ⟨pb, 0, none⟩ (.bool false)) by
      unfold NextO
      rw [NX.out, if_pos (.inl k0)]
      exact ⟨rfl, ⟨far_blk (set_blk A.out _) NE.out _, set_blk (far_blk B.out (Ne.symm NE.out) _) _⟩, ((Keeps.refl (Two pa pb) w1).set (.inl (.inl rfl)) _ _).set (.inl (.inr rfl)) _ _⟩)
    have b0 : ((k : Int) == 0) = true := by simp [k0]
    clear k0
    go_wp2
    go_ret
    exact V.out
  · have b0 : ((k : Int) == 0) = false := by simp; omega
    by_cases g : most < (n : Int)
    · have b1 : decide (most < (n : Int)) = true := decide_eq_true g
      have V := Lib.hid (show NextO (l, ok) most pa pb w1 (.returned (.int .i64 0)) ((w1.setCell ⟨pa, 0, none⟩ (.string (BS []))).setCell ⟨pb, 0, none⟩ (.bool false)) by
        unfold NextO
        rw [NX.out, if_pos (.inr g)]
        exact ⟨rfl, ⟨far_blk (set_blk A.out _) NE.out _, set_blk (far_blk B.out (Ne.symm NE.out) _) _⟩, ((Keeps.refl (Two pa pb) w1).set (.inl (.inl rfl)) _ _).set (.inl (.inr rfl)) _ _⟩)
      go_wp2
      go_ret
      exact V.out
    · have b1 : decide (most < (n : Int)) = false := decide_eq_false g
      have V := Lib.hid (show NextO (l, ok) most pa pb w1 (.returned (.int .i64 n)) (w1.setCell ⟨pa, 0, none⟩ (.string (BS (l.drop k)))) by
        unfold NextO
        rw [NX.out, if_neg (by omega)]
        exact ⟨rfl, ⟨set_blk A.out _, far_blk B.out (Ne.symm NE.out) _⟩, (Keeps.refl (Two pa pb) w1).set (.inl (.inl rfl)) _ _⟩)
      have s0 : 0 ≤ (k : Int) := by omega
      have s1 : (k : Int) ≤ ((BS l).size : Int) := by rw [BS_size]; have := K1.out; omega
      have EX := ext_drop (BS l) k
      rw [BS_data] at EX
      have s2 : k ≤ (BS l).size := by rw [BS_size]; exact K1.out
      go_wp2
      go_ret
      exact V.out
end Go.Proofs.Ytlcagjmppmajeaa

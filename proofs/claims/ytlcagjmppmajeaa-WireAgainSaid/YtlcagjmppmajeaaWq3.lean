/-
  Package wire's Check: the closure that tells the next of the fields: contract.
-/
import Derived.Test.YtlcagjmppmajeaaWq2
namespace Go.Proofs.Ytlcagjmppmajeaa
open Go.RowKit

/-- what is left of fields, in two boxes -/
def FldAt (N : Nat) (w : World) (pa pb : Nat) (zs : List Int) : Prop :=
  ∃ a cap, Blk w 46 pa #[.slice a zs.length cap] ∧ Row .i64 w a zs.length cap zs ∧ Blk w 4 pb #[.bool true] ∧ ∀ ad : Addr, a = some ad → ad.block ≠ pa ∧ ad.block ≠ pb ∧ ad.block < N
theorem Row.tail {k : IntKind} {W : World} {b off len cap : Nat} {z : Int} {zs : List Int} (h : Row k W (some ⟨b, off, none⟩) (len + 1) cap (z :: zs)) : Row k W (some ⟨b, off + 1, none⟩) len (cap - 1) zs := by
  obtain ⟨h1, h2, h3, h4, h5⟩ := h
  refine ⟨by simpa using h1, by omega, by omega, (fun e => by cases e), fun i hi => ?_⟩
  obtain ⟨b', off', e, hc⟩ := h5 (i + 1) (by omega)
  cases e
  refine ⟨_, _, rfl, ?_⟩
  have : (z :: zs).getD (i + 1) 0 = zs.getD i 0 := by simp
  rw [← this, ← hc]
  congr 2
  omega

set_option maxRecDepth 20000 in
set_option maxHeartbeats 4000000 in
theorem wtake_any (z : Int) (zs : List Int) (most : Int) (N pa pb : Nat) (w : World) (hne : pa ≠ pb) (h : FldAt N w pa pb (z :: zs)) (z0 : 0 ≤ z) (z1 : z ≤ most) :
    Calls Try.prog 22 #[.int .i64 most, .pointer (some ⟨pa, 0, none⟩), .pointer (some ⟨pb, 0, none⟩)] w fun e w' => e = .returned (.int .i64 z) ∧ FldAt N w' pa pb zs ∧ Keeps (Two pa pb) w w' := by
  obtain ⟨a, cap, h1, hr, h2, ha⟩ := h
  have A := Lib.hid h1
  have B := Lib.hid h2
  have NE := Lib.hid hne
  have R := Lib.hid hr
  have HA := Lib.hid ha
  have x0 := h1.cell 0
  have f0 := h1.free 0
  have y0 := h2.cell 0
  have q0 := h2.free 0
  simp at x0 y0
  obtain ⟨b, off, rfl, hc⟩ := hr.cell (i := 0) (by simp)
  have c1 := hr.cap_le
  simp only [List.length_cons] at c1
  simp at hc
  clear h1 h2 hne hr ha
  have d0 : decide (0 ≤ z) = true := decide_eq_true z0
  have d1 : decide (z ≤ most) = true := decide_eq_true z1
  by_cases cp : cap = 1
  · subst cp
    have h0 : zs = [] := List.length_eq_zero_iff.mp (by omega)
    subst h0
    have y1 := (far_blk (p := ⟨pa, 0, none⟩) B.out (Ne.symm NE.out) (.slice (some ⟨b, off, none⟩) 0 0)).cell 0
    have q1 := (far_blk (p := ⟨pa, 0, none⟩) B.out (Ne.symm NE.out) (.slice (some ⟨b, off, none⟩) 0 0)).free 0
    simp at y1
    have RW := Lib.hid (show Row .i64 w (some ⟨b, off, none⟩) 0 0 [] by
      exact ⟨rfl, by simp, by omega, (fun e => by cases e), fun i hi => by simp at hi⟩)
    have V := Lib.hid (show FldAt N ((w.setCell ⟨pa, 0, none⟩ (.slice (some ⟨b, off, none⟩) 0 0)).setCell ⟨pb, 0, none⟩ (.bool true)) pa pb [] ∧ Keeps (Two pa pb) w ((w.setCell ⟨pa, 0, none⟩ (.slice (some ⟨b, off, none⟩) 0 0)).setCell ⟨pb, 0, none⟩ (.bool true)) by
      have ⟨n1, n2, n3⟩ := HA.out _ rfl
      refine ⟨⟨_, _, far_blk (set_blk A.out _) NE.out _, ?_, set_blk (far_blk B.out (Ne.symm NE.out) _) _, fun ad e => by cases e; exact ⟨n1, n2, n3⟩⟩, ((Keeps.refl (Two pa pb) w).set (.inl (.inl rfl)) _ _).set (.inl (.inr rfl)) _ _⟩
      exact (RW.out.setCell _ _ (fun ad e => by cases e; exact n1)).setCell _ _ (fun ad e => by cases e; exact n2))
    go_enter Try.func22, Try.ntmps22
    go_wp2
    go_ret
    exact ⟨rfl, V.out⟩
  · have cq : ¬ cap - 1 = 0 := by omega
    have cq2 : cap - 1 ≠ 0 := cq
    have y1 := (far_blk (p := ⟨pa, 0, none⟩) B.out (Ne.symm NE.out) (.slice (some ⟨b, off + 1, none⟩) zs.length (cap - 1))).cell 0
    have q1 := (far_blk (p := ⟨pa, 0, none⟩) B.out (Ne.symm NE.out) (.slice (some ⟨b, off + 1, none⟩) zs.length (cap - 1))).free 0
    simp at y1
    have RW := Lib.hid (show Row .i64 w (some ⟨b, off + 1, none⟩) zs.length (cap - 1) zs from Row.tail R.out)
    have V := Lib.hid (show FldAt N ((w.setCell ⟨pa, 0, none⟩ (.slice (some ⟨b, off + 1, none⟩) zs.length (cap - 1))).setCell ⟨pb, 0, none⟩ (.bool true)) pa pb zs ∧ Keeps (Two pa pb) w ((w.setCell ⟨pa, 0, none⟩ (.slice (some ⟨b, off + 1, none⟩) zs.length (cap - 1))).setCell ⟨pb, 0, none⟩ (.bool true)) by
      have ⟨n1, n2, n3⟩ := HA.out _ rfl
      refine ⟨⟨_, _, far_blk (set_blk A.out _) NE.out _, ?_, set_blk (far_blk B.out (Ne.symm NE.out) _) _, fun ad e => by cases e; exact ⟨n1, n2, n3⟩⟩, ((Keeps.refl (Two pa pb) w).set (.inl (.inl rfl)) _ _).set (.inl (.inr rfl)) _ _⟩
      exact (RW.out.setCell _ _ (fun ad e => by cases e; exact n1)).setCell _ _ (fun ad e => by cases e; exact n2))
    go_enter Try.func22, Try.ntmps22
    go_wp2
    go_ret
    exact ⟨rfl, V.out⟩
end Go.Proofs.Ytlcagjmppmajeaa

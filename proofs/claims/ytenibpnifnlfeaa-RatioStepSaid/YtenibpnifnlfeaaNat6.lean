/-
  What Clone and package nat's Div give back: contracts.
-/
import Derived.Test.YtenibpnifnlfeaaNat5
import Derived.Lib.SliceRun
namespace Go.Proofs.Ytenibpnifnlfeaa
open Go.RowKit

/-- nothing, or a row of one's own that begins with zs -/
def Whose (W : World) (base : Nat) (a : Option Addr) (len cap : Nat) (zs : List Int) : Prop :=
  zs.length = len ∧ len ≤ cap ∧ cap ≤ 9223372036854775807 ∧ ((a = none ∧ cap = 0) ∨ ∃ g, a = some ⟨g, 0, none⟩ ∧ base ≤ g ∧ Mine W g zs)
theorem Whose.row {W : World} {base : Nat} {a : Option Addr} {len cap : Nat} {zs : List Int} (h : Whose W base a len cap zs) : Row .u32 W a len cap zs := by
  obtain ⟨rfl, h1, h2, ⟨rfl, rfl⟩ | ⟨g, rfl, _, h3⟩⟩ := h
  · refine ⟨rfl, h1, h2, (fun _ => rfl), (fun i hi => by omega)⟩
  · exact h3.row h1 h2
theorem Whose.fresh {W : World} {base : Nat} {a : Option Addr} {len cap : Nat} {zs : List Int} (h : Whose W base a len cap zs) : Fresh base a := by
  obtain ⟨_, _, _, ⟨rfl, _⟩ | ⟨g, rfl, h3, _⟩⟩ := h
  · exact Fresh.none
  · intro ad e; cases e; exact h3
def Clones (w : World) (len : Nat) (zs : List Int) (e : Ending) (w' : World) : Prop :=
  ∃ a cap, e = .returned (.slice a len cap) ∧ Whose w' w.heap.size a len cap zs ∧ Below w.heap.size w w'

theorem clone_any (a : Option Addr) (la ca : Nat) (za : List Int) (w : World) (ha : Row .u32 w a la ca za) (la6 : la ≤ 1000000) :
    Calls Try.prog 63 #[.slice a la ca] w (Clones w la za) := by
  obtain ⟨i0, hi, hz0, hz1, hz2⟩ := info_parts Try.infoU32
  have HA := Lib.hid ha
  have ⟨c1, c2⟩ := ha.cap_le
  clear ha
  have qT : ∀ (w : World) (a : Option Addr) (n c n' c' : Nat), (binOp .eql 24 (.slice a n c) (.slice none n' c')).run Try.prog w = .ok (.bool a.isNone) w := fun w a n c n' c' => Lib.run_eql_slice_nil w _ _ a n c n' c' Try.underlying24
  rcases a with _ | ad
  · obtain ⟨rfl, rfl, rfl⟩ := HA.out.none_cap
    go_enter Try.func63, Try.ntmps63
    go_wp2
    go_ret
    exact ⟨none, 0, rfl, ⟨rfl, by omega, by omega, .inl ⟨rfl, rfl⟩⟩, Below.refl _ _⟩
  · go_enter Try.func63, Try.ntmps63
    go_wp2_with (at_builtin; refine wpList_append_own _ rfl _ _ 24 rfl w.heap.size 38 i0 (.int .u32 0) 1 4 Try.underlying24 hi hz0 hz1 hz2 rfl (by decide) (.slice (some ⟨w.heap.size, 0, none⟩) 0 0) 0 [] rfl (World.ownsRow_lit (e := 38) (size := 1) w #[] 0 (Nat.le_refl _) (by unfold maxLen; omega) rfl) ad la ca (za.map (Value.int .u32)) rfl (by simp [HA.out.len]) (HA.out.below ((Below.refl _ _).alloc (Nat.le_refl _) _)).news (ints_one _ _) (by unfold maxLen; omega) (by omega) (by simp) ?_; intro v2 w2 hown2 hgrow2 hnil2; have HO2 := Lib.hid hown2; have HG2 := Lib.hid hgrow2; have HN2 := Lib.hid hnil2; clear hown2 hgrow2 hnil2)
    go_ret
    have ho := HO2.out
    rw [Nat.zero_add, List.nil_append] at ho
    have hb : Below w.heap.size w w2 := ((Below.refl w.heap.size w).alloc (Nat.le_refl _) _).grown HG2.out (by simp) (fun g hg => Nat.le_of_eq (by simpa [Value.ownBlock] using hg))
    rcases ho.2 with ⟨h', _⟩ | ⟨g', cap', cur, rfl, hbg, hg, h1, h2, h3, htake⟩
    · exfalso
      have := HN2.out.mp h'
      simp at this
    · refine ⟨_, _, rfl, ⟨HA.out.len, h1, by unfold maxLen at h2; omega, .inr ⟨g', rfl, hbg, mine_of_owns ho⟩⟩, hb⟩

theorem divide_nil (d : Int) (w : World) : Calls Try.prog 64 #[.slice none 0 0, .int .u32 d] w fun e w' => e = .returned (.int .u32 0) ∧ w = w' := by
  go_enter Try.func64, Try.ntmps64
  go_wp2
  go_loop [5, 11] (fun u v => u = .int .u64 0 ∧ v = .int .i64 0) (fun _ _ => 0)
  case atStart => exact ⟨rfl, rfl⟩
  case round =>
    obtain ⟨rfl, rfl⟩ := hrel
    go_wp2
    go_ret
    exact ⟨rfl, rfl⟩

/-- a row of one's own, or nothing, is divided where it lies -/
def DividesW (w : World) (base : Nat) (a : Option Addr) (len cap : Nat) (zs : List Int) (d : Int) (e : Ending) (w' : World) : Prop :=
  e = .returned (.int .u32 (val 4294967296 zs % d)) ∧ ∃ qs, Digs 4294967296 qs ∧ val 4294967296 qs = val 4294967296 zs / d ∧ Whose w' base a len cap qs ∧ (∀ row, (∀ g, a = some ⟨g, 0, none⟩ → row = some g) → w.grownBy w' row)
theorem divide_any (base : Nat) (a : Option Addr) (len cap : Nat) (zs : List Int) (d : Int) (w : World) (h : Whose w base a len cap zs) (hd : Digs 4294967296 zs) (d0 : 0 < d) (d1 : d < 4294967296) :
    Calls Try.prog 64 #[.slice a len cap, .int .u32 d] w (DividesW w base a len cap zs d) := by
  obtain ⟨h0, h1, h2, ⟨rfl, rfl⟩ | ⟨g, rfl, h3, h4⟩⟩ := h
  · obtain rfl : len = 0 := by omega
    obtain rfl := List.length_eq_zero_iff.mp h0
    refine (divide_nil d w).mono ?_
    rintro e w' ⟨rfl, rfl⟩
    exact ⟨by simp [val], [], Digs.nil, by simp [val], ⟨rfl, by omega, by omega, .inl ⟨rfl, rfl⟩⟩, fun _ _ => ⟨rfl, rfl, rfl, Nat.le_refl _, fun _ _ _ => rfl⟩⟩
  · refine (divide_mine g len cap zs d w h4 h0 h1 h2 hd d0 d1).mono ?_
    rintro e w' ⟨rfl, qs, q1, q2, q3, q4, q5⟩
    exact ⟨rfl, qs, q2, q3, ⟨q1.trans h0, h1, h2, .inr ⟨g, rfl, h3, q4⟩⟩, fun row hr => by rw [hr g rfl]; exact q5⟩
theorem grown_fresh {w w0 w' : World} {a : Option Addr} {base : Nat} (hb : Below base w0 w) (hB : base ≤ w.heap.size) (hf : Fresh base a)
    (h : ∀ row, (∀ g, a = some ⟨g, 0, none⟩ → row = some g) → w.grownBy w' row) : Below base w0 w' := by
  rcases a with _ | ⟨g, o, f⟩
  · exact hb.grown (h none (fun _ e => by cases e)) hB (fun k e => by cases e)
  · refine hb.grown (h (some g) (fun _ e => by cases e; rfl)) hB (fun k e => ?_)
    cases e
    exact hf _ rfl

def Parted (w : World) (m d : Int) (e : Ending) (w' : World) : Prop :=
  ∃ a len cap zs, e = .returned (.tuple #[.slice a len cap, .int .u32 (m % d), .int .i64 0]) ∧ Row .u32 w' a len cap zs ∧ Is 4294967296 zs (m / d) ∧ Fresh w.heap.size a ∧ Below w.heap.size w w'

theorem nDiv_zero (a : Option Addr) (la ca : Nat) (w : World) :
    Calls Try.prog 71 #[.slice a la ca, .int .u32 0] w fun e w' => e = .returned (.tuple #[.slice none 0 0, .int .u32 0, .int .i64 17]) ∧ w = w' := by
  go_enter Try.func71, Try.ntmps71
  go_wp2
  go_ret3
  exact ⟨rfl, rfl⟩

theorem nDiv_pos (a : Option Addr) (la ca : Nat) (za : List Int) (d : Int) (w : World) (ha : Row .u32 w a la ca za) (da : Digs 4294967296 za) (la6 : la ≤ 1000000) (d0 : 0 < d) (d1 : d < 4294967296) :
    Calls Try.prog 71 #[.slice a la ca, .int .u32 d] w (Parted w (val 4294967296 za) d) := by
  have HA := Lib.hid ha
  have DA := Lib.hid da
  clear ha da
  have b0 : (d == 0) = false := by simp; omega
  go_enter Try.func71, Try.ntmps71
  go_wp2_with (first
    | (go_at_call 63; refine (clone_any _ _ _ za _ HA.out la6).mono ?_; rintro e w1 ⟨a1, cp1, rfl, hw1, hb1⟩; have HW1 := Lib.hid hw1; have HB1 := Lib.hid hb1; clear hw1 hb1)
    | (go_at_call 64; refine (divide_any _ _ _ _ za _ _ HW1.out DA.out d0 d1).mono ?_; rintro e w2 ⟨rfl, qs, hq1, hq2, hq3, hq4⟩; have HQ1 := Lib.hid hq1; have HQ2 := Lib.hid hq2; have HQ3 := Lib.hid hq3; have HQ4 := Lib.hid hq4; clear hq1 hq2 hq3 hq4)
    | (go_at_call 52; refine (ncut_any _ _ _ qs _ HQ3.out.row HQ1.out).mono ?_; rintro e w3 ⟨m1, l1, rfl, hr1, hi1, rfl⟩; rw [HQ2.out] at hi1; have HR1 := Lib.hid hr1; have HI1 := Lib.hid hi1; clear hr1 hi1))
  go_ret3
  exact ⟨_, _, _, _, rfl, HR1.out, HI1.out, HW1.out.fresh, grown_fresh HB1.out HB1.out.size HW1.out.fresh HQ4.out⟩
end Go.Proofs.Ytenibpnifnlfeaa

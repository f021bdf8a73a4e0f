/-
  What the document's Little and Least give back of ratios: contracts.
-/
import Derived.Test.YtenibpnifnlfeaaRat4
namespace Go.Proofs.Ytenibpnifnlfeaa
open Go.RowKit

theorem is_one_limb {zs : List Int} {n : Int} (h : Is 4294967296 zs n) (hl : zs.length = 1) : zs.getD 0 0 = n := by
  match zs, hl with
  | [x], _ => have := h.2.2; simpa [val] using this
theorem is_no_limb {zs : List Int} {n : Int} (h : Is 4294967296 zs n) (hl : zs.length = 0) : n = 0 := by
  match zs, hl with
  | [], _ => have := h.2.2; simpa [val] using this.symm

theorem below_three (w : World) (o1 o2 o3 : Obj) : Below w.heap.size w (((w.alloc o1).alloc o2).alloc o3) := (((Below.refl _ _).alloc (Nat.le_refl _) _).alloc (by simp) _).alloc (by simp; omega) _

theorem below_two (w : World) (o1 o2 : Obj) : Below w.heap.size w ((w.alloc o1).alloc o2) := ((Below.refl _ _).alloc (Nat.le_refl _) _).alloc (by simp) _
theorem little_any (a1 : Option Addr) (l1 c1 : Nat) (z1 : List Int) (n : Int) (a2 : Option Addr) (c2 : Nat) (z2 : List Int) (d : Int) (w : World) (h1 : Row .u32 w a1 l1 c1 z1) (i1 : Is 4294967296 z1 n) (h2 : Row .u32 w a2 1 c2 z2) (i2 : Is 4294967296 z2 d) (hl : l1 ≤ 1) :
    Calls Try.prog 21 #[.agg #[.slice a1 l1 c1, .slice a2 1 c2]] w fun e w' => e = .returned (.agg #[.int .u64 n, .int .u64 d, .bool true]) ∧ Below w.heap.size w w' := by
  obtain ⟨ba, oa, rfl, hca⟩ := h2.cell (show 0 < 1 by omega)
  obtain ⟨x1, x2⟩ := i2.1.getD (by omega) 0
  rw [is_one_limb i2 h2.len] at hca x1 x2
  have hlta : ba < w.heap.size := World.block_lt_of_cell? _ _ hca
  rw [Nat.add_zero] at hca
  have q2 : ∀ o1 o2, ((w.alloc o1).alloc o2).cell? ⟨ba, oa, none⟩ = some (.int .u32 d) := fun o1 o2 => by
    rw [cell_old _ _ (show ba < _ by rw [size_alloc]; omega), cell_old _ _ (show ba < _ from hlta)]; exact hca
  rcases Nat.eq_zero_or_pos l1 with e | e
  · subst e
    obtain rfl := is_no_limb i1 h1.len
    clear h1 h2 i1 i2
    go_enter Try.func21, Try.ntmps21
    go_wp2
    refine bodyPost_ret (v := .agg #[.int .u64 0, .int .u64 d, .bool true]) (by simp [results, Try.results21, go_sem]) rfl ⟨rfl, ?_⟩
    exact below_three _ _ _ _
  · obtain rfl : l1 = 1 := by omega
    obtain ⟨bb, ob, rfl, hcb⟩ := h1.cell (show 0 < 1 by omega)
    obtain ⟨y1, y2⟩ := i1.1.getD (by omega) 0
    rw [is_one_limb i1 h1.len] at hcb y1 y2
    have hltb : bb < w.heap.size := World.block_lt_of_cell? _ _ hcb
    rw [Nat.add_zero] at hcb
    have q3 : ∀ o1 o2 o3, (((w.alloc o1).alloc o2).alloc o3).cell? ⟨bb, ob, none⟩ = some (.int .u32 n) := fun o1 o2 o3 => by
      rw [cell_old _ _ (show bb < _ by rw [size_alloc, size_alloc]; omega), cell_old _ _ (show bb < _ by rw [size_alloc]; omega), cell_old _ _ (show bb < _ from hltb)]; exact hcb
    clear h1 h2 i1 i2
    go_enter Try.func21, Try.ntmps21
    go_wp2
    refine bodyPost_ret (v := .agg #[.int .u64 n, .int .u64 d, .bool true]) (by simp [results, Try.results21, go_sem]) rfl ⟨rfl, ?_⟩
    exact below_three _ _ _ _

theorem rleast_any (N D : Nat) (b : Bool) (w : World) (n1 : N < 4294967296) (d1 : D < 4294967296) (d0 : 0 < D) :
    Calls Try.prog 22 #[.agg #[.int .u64 N, .int .u64 D, .bool b]] w fun e w' => e = .returned (.agg #[.int .u64 ((N / Nat.gcd N D : Nat) : Int), .int .u64 ((D / Nat.gcd N D : Nat) : Int), .bool b]) ∧ Below w.heap.size w w' := by
  have g0 : 0 < Nat.gcd N D := Nat.gcd_pos_of_pos_right N d0
  have g1 : Nat.gcd N D ≤ D := Nat.gcd_le_right N d0
  have G := Lib.hid (rgcd_up D N D ((w.alloc (.cells #[.int .u64 N, .int .u64 D, .bool b] 43)).alloc (.cells #[.int .u64 0, .int .u64 0, .bool false] 43)) (Nat.le_refl _) (by omega) (by omega))
  obtain ⟨g, hg⟩ : ∃ g, Nat.gcd N D = g := ⟨_, rfl⟩
  rw [hg] at g0 g1 G ⊢
  clear hg
  go_enter Try.func22, Try.ntmps22
  go_wp2_with fail
  refine G.out.mono ?_
  rintro e w' ⟨rfl, rfl⟩
  have h1 : (N : Int).tdiv (g : Int) = (N : Int) / (g : Int) := Int.tdiv_eq_ediv_of_nonneg (by omega)
  have h2 : (D : Int).tdiv (g : Int) = (D : Int) / (g : Int) := Int.tdiv_eq_ediv_of_nonneg (by omega)
  have b1 : (N : Int) / (g : Int) ≤ N := Int.ediv_le_self _ (by omega)
  have b2 : (D : Int) / (g : Int) ≤ D := Int.ediv_le_self _ (by omega)
  have b3 : 0 ≤ (N : Int) / (g : Int) := Int.ediv_nonneg (by omega) (by omega)
  have b4 : 0 ≤ (D : Int) / (g : Int) := Int.ediv_nonneg (by omega) (by omega)
  have h3 : IntKind.u64.wrap ((N : Int) / (g : Int)) = (N : Int) / (g : Int) := IntWalk.u64_in _ (by omega)
  have h4 : IntKind.u64.wrap ((D : Int) / (g : Int)) = (D : Int) / (g : Int) := IntWalk.u64_in _ (by omega)
  have h5 : ¬ (g : Int) = 0 := by omega
  have h6 : ¬ g = 0 := by omega
  go_wp2
  go_region
  all_goals
    go_wp2
    refine bodyPost_ret (v := .agg #[.int .u64 ((N / g : Nat) : Int), .int .u64 ((D / g : Nat) : Int), .bool b]) (by simp [results, Try.results22, go_sem]) rfl ⟨rfl, ?_⟩
    first
      | exact (below_two _ _ _).drew
      | exact below_two _ _ _
end Go.Proofs.Ytenibpnifnlfeaa

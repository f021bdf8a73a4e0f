/-
  Next and Peek of package stepper and of the document's, with the answer's numbers under names.
-/
import Derived.Test.YtbomjnkccgmjjaaSt7
namespace Go.Proofs.Ytbomjnkccgmjjaa
open Go.RowKit

theorem speek_at (E P O n : Int) (g : Nat) (v0 v1 v2 v3 v4 : Int) (w : World) (h : Stp w g E P O n) (hM : MayBe E P) (n0 : 0 ≤ n) (n1 : n < 1099511627776) (O0 : 0 ≤ O) (O1 : O ≤ 2305843009213693952) (hv : aheadV E P O (n + 1) = subV v0 v1 v2 v3 v4) :
    Calls Try.prog 14 #[.pointer (some ⟨g, 0, none⟩)] w fun e w' => e = .returned (.agg #[.int .i64 v0, .int .i64 v1, .int .i64 v2, .int .i64 v3, .int .i64 v4]) ∧ Below w.heap.size w w' :=
  (speek_any E P O n g w h hM n0 n1 O0 O1).mono fun _ _ ⟨h1, h2⟩ => ⟨by rw [h1, hv]; rfl, h2⟩
theorem snext_at (E P O n : Int) (g : Nat) (v0 v1 v2 v3 v4 : Int) (w : World) (h : Stp w g E P O n) (hM : MayBe E P) (n0 : 0 ≤ n) (n1 : n < 1099511627776) (O0 : 0 ≤ O) (O1 : O ≤ 2305843009213693952) (hv : aheadV E P O (n + 1) = subV v0 v1 v2 v3 v4) :
    Calls Try.prog 16 #[.pointer (some ⟨g, 0, none⟩)] w fun e w' => e = .returned (.agg #[.int .i64 v0, .int .i64 v1, .int .i64 v2, .int .i64 v3, .int .i64 v4]) ∧ Stp w' g E P O (n + 1) ∧ But g w w' :=
  (snext_any E P O n g w h hM n0 n1 O0 O1).mono fun _ _ ⟨h1, h2⟩ => ⟨by rw [h1, hv]; rfl, h2⟩
theorem r5peek_at (E P O I : Int) (g : Nat) (v0 v1 v2 v3 v4 : Int) (w : World) (h : Blk w 32 g (stC E P O I)) (hM : MayBe E P) (hI : Nth I) (O0 : 0 ≤ O) (O1 : O ≤ 2305843009213693952) (hv : aheadV E P O I = subV v0 v1 v2 v3 v4) :
    Calls Try.prog 15 #[.pointer (some ⟨g, 0, none⟩)] w fun e w' => e = .returned (.agg #[.int .i64 v0, .int .i64 v1, .int .i64 v2, .int .i64 v3, .int .i64 v4]) ∧ Below w.heap.size w w' :=
  (r5peek_yes E P O I g w h hM hI O0 O1).mono fun _ _ ⟨h1, h2⟩ => ⟨by rw [h1, hv]; rfl, h2⟩
theorem r5next_at (E P O I : Int) (g : Nat) (v0 v1 v2 v3 v4 : Int) (w : World) (h : Blk w 32 g (stC E P O I)) (hM : MayBe E P) (hI : Nth I) (O0 : 0 ≤ O) (O1 : O ≤ 2305843009213693952) (hv : aheadV E P O I = subV v0 v1 v2 v3 v4) :
    Calls Try.prog 17 #[.pointer (some ⟨g, 0, none⟩)] w fun e w' => e = .returned (.agg #[.int .i64 v0, .int .i64 v1, .int .i64 v2, .int .i64 v3, .int .i64 v4]) ∧ Blk w' 32 g (stC E P O (I + 1)) ∧ But g w w' :=
  (r5next_yes E P O I g w h hM hI O0 O1).mono fun _ _ ⟨h1, h2⟩ => ⟨by rw [h1, hv]; rfl, h2⟩
theorem ahead_names (E P O I : Int) : ∃ R D T G, aheadV E P O I = subV I R D T G := ⟨_, _, _, _, rfl⟩
end Go.Proofs.Ytbomjnkccgmjjaa

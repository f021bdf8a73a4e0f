/-
  What package nat's small functions give back: sign, limb, carrier and its closure, cut, Check, Of: contracts.
-/
import Derived.Test.YtenibpnifnlfeaaNatRef9
namespace Go.Proofs.Ytenibpnifnlfeaa
open Go.RowKit

theorem sign_yes (w : World) : Calls Try.prog 53 #[.bool true] w fun e w' => e = .returned (.int .i64 (-1)) ∧ w = w' := by
  go_enter Try.func53, Try.ntmps53
  go_wp2
  go_ret
  exact ⟨rfl, rfl⟩
theorem sign_no (w : World) : Calls Try.prog 53 #[.bool false] w fun e w' => e = .returned (.int .i64 1) ∧ w = w' := by
  go_enter Try.func53, Try.ntmps53
  go_wp2
  go_ret
  exact ⟨rfl, rfl⟩

theorem limb_any (a : Option Addr) (la ca : Nat) (za : List Int) (i : Nat) (w : World) (ha : Row .u32 w a la ca za) :
    Calls Try.prog 55 #[.slice a la ca, .int .i64 i] w fun e w' => e = .returned (.int .u32 (za.getD i 0)) ∧ w = w' := by
  have HA := Lib.hid ha
  have LA := Lib.hid ha.len
  have ⟨c1, c2⟩ := ha.cap_le
  clear ha
  by_cases p : i < la
  · obtain ⟨ba, oa, rfl, hca⟩ := HA.out.cell p
    obtain ⟨x, hx⟩ : ∃ x, za.getD i 0 = x := ⟨_, rfl⟩
    rw [hx] at hca
    have HX := Lib.hid hx
    clear hx
    have bp : decide (i < la) = true := by simp; omega
    go_enter Try.func55, Try.ntmps55
    go_wp2
    go_ret
    exact ⟨ret_one HX.out.symm, rfl⟩
  · have HX := Lib.hid (getD_out (zs := za) (i := i) (by rw [LA.out]; omega))
    have bp : decide (i < la) = false := by simp; omega
    go_enter Try.func55, Try.ntmps55
    go_wp2
    go_ret
    exact ⟨ret_one HX.out.symm, rfl⟩

/-- the function value of a carrier whose carry lies in block b -/
def carryF (b : Nat) : Value := .func (.func 68) #[] #[.pointer (some ⟨b, 0, none⟩)]

theorem carrier_any (c : Int) (w : World) :
    Calls Try.prog 54 #[.int .u64 c] w fun e w' => e = .returned (.func (.func 68) #[] #[.pointer (some ⟨w.heap.size, 0, none⟩)]) ∧ w.alloc (.cells #[.int .u64 c] 40) = w' := by
  have hmf : ∀ (fn : Fn) (first cap : Array Value) (w : World), (Instr.makeFunc fn first cap).run Try.prog w = .ok (.func fn first cap) w := fun _ _ _ _ => rfl
  go_enter Try.func54, Try.ntmps54
  go_wp2
  go_ret
  exact ⟨rfl, rfl⟩

theorem carry_any (n c : Int) (b : Nat) (w : World) (h : w.heap[b]? = some (.cells #[.int .u64 c] 40 (0, 0))) (n0 : 0 ≤ n) (c0 : 0 ≤ c) (h1 : n + c ≤ 18446744073709551615) :
    Calls Try.prog 68 #[.int .u64 n, .pointer (some ⟨b, 0, none⟩)] w fun e w' => e = .returned (.int .u32 ((n + c) % 4294967296)) ∧ w.setCell ⟨b, 0, none⟩ (.int .u64 ((n + c) / 4294967296)) = w' := by
  have hc := cell_of_one h
  have hf := free_of_one h
  clear h
  go_enter Try.func68, Try.ntmps68
  go_wp2
  go_ret
  exact ⟨rfl, rfl⟩
end Go.Proofs.Ytenibpnifnlfeaa

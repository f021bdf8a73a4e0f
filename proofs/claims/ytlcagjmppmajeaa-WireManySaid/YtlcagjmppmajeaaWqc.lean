/-
  Package slices' Collect of fields: contract.
-/
import Derived.Test.YtlcagjmppmajeaaWqb
namespace Go.Proofs.Ytlcagjmppmajeaa
open Go.RowKit

set_option maxRecDepth 20000 in
set_option maxHeartbeats 4000000 in
theorem wcollect_any (g : Nat) (hg : g = 30) (cp : Array Value) (zs : List Int) (Ap : (Nat → Prop) → Prop) (w : World) (hseq : ∀ n, GivesM n Try.prog g cp enc1 zs Ap w) (hAp : ∀ F : Nat → Prop, (∀ k, F k → w.heap.size ≤ k) → Ap F) (hl : zs.length ≤ 1000) :
    Calls Try.prog 19 #[.func (.func g) #[] cp] w fun e w' => ∃ a cap, e = .returned (.slice a zs.length cap) ∧ Row .i64 w' a zs.length cap zs ∧ Fresh w.heap.size a ∧ Below w.heap.size w w' := by
  subst hg
  have HS := Lib.hid hseq
  have AP := Lib.hid hAp
  clear hseq hAp
  go_enter Try.func19, Try.ntmps19
  go_wp2_with fail
  refine (wappendseq_any _ rfl cp zs Ap w HS.out AP.out hl).mono ?_
  rintro e w1 ⟨a, cap, rfl, hr, hf, hb⟩
  have R := Lib.hid hr
  have FR := Lib.hid hf
  have B := Lib.hid hb
  clear hr hf hb
  go_wp2
  exact bodyPost_ret (v := .slice a zs.length cap) (by simp [results, Try.results19, go_sem]) rfl ⟨a, cap, rfl, R.out, FR.out, B.out⟩
end Go.Proofs.Ytlcagjmppmajeaa

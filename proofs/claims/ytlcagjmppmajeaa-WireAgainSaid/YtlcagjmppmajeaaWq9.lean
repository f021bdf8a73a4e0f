/-
  Package wire's all, called with a round: contract.
-/
import Derived.Test.YtlcagjmppmajeaaWq8
import Derived.Test.YtlcagjmppmajeaaWq4
namespace Go.Proofs.Ytlcagjmppmajeaa
open Go.RowKit

theorem row_keeps {F : Nat → Prop} {k : IntKind} {W W' : World} {a : Option Addr} {len cap : Nat} {zs : List Int} (h : Row k W a len cap zs) (hk : Keeps F W W') (hF : ∀ ad : Addr, a = some ad → ¬ F ad.block) : Row k W' a len cap zs := by
  refine ⟨h.1, h.2.1, h.2.2.1, h.2.2.2.1, fun i hi => ?_⟩
  obtain ⟨b, off, ha, hc⟩ := h.2.2.2.2 i hi
  refine ⟨b, off, ha, (World.cell?_of_block (w := W) (a := ⟨b, off + i, none⟩) (hk.block b (World.block_lt_of_cell? _ _ hc) (hF ⟨b, off, none⟩ ha))).trans hc⟩
theorem row_lt {k : IntKind} {W : World} {a : Option Addr} {len cap : Nat} {zs : List Int} (h : Row k W a len cap zs) (hl : 0 < len) {ad : Addr} (e : a = some ad) : ad.block < W.heap.size := by
  obtain ⟨b, off, ha, hc⟩ := h.cell hl
  rw [ha] at e
  cases e
  exact World.block_lt_of_cell? _ _ hc
abbrev enc1 (x : Int) : Array Value := #[.int .i64 x]
def StabM {α : Type} (J : (Nat → Prop) → List α → World → Prop) : Prop := ∀ F pre A B, J F pre A → Below A.heap.size A B → J F pre B
def YieldM (J : (Nat → Prop) → List Int → World → Prop) (l : Nat) (all : List Int) : Prop := ∀ F pre x W1, J F pre W1 → pre.length < 1000 → x ∈ all → YieldAt Fence.wide 0 Try.prog l (enc1 x) W1 (RoundM J F (pre ++ [x]) W1)
def AllO (J : (Nat → Prop) → List Int → World → Prop) (F0 : Nat → Prop) (xs : List Int) (W : World) (e : Ending) (W' : World) : Prop := e = .returned (.bool true) ∧ ∃ F', J F' xs W' ∧ Moves F0 F' W W'

section
attribute [local go_sem] Oper.semAt_some
set_option maxRecDepth 100000 in
set_option maxHeartbeats 2000000 in
theorem wall_in (n : Nat) (l : Nat) (J : (Nat → Prop) → List Int → World → Prop) (all : List Int) (hY : YieldM J l all) (F0 : Nat → Prop) (pre : List Int) (W : World) (a : Option Addr) (len cap : Nat) (zs : List Int)
    (hr : Row .i64 W a len cap zs) (hne : ∀ ad : Addr, a = some ad → ¬ F0 ad.block) (h0 : J F0 pre W) (hlt : ∀ k, F0 k → k < W.heap.size) (hlen : pre.length + len ≤ 1000) (hz : ∀ z ∈ zs, z ∈ all) :
    CallsIn Fence.wide n Try.prog 31 #[.func (.yield l) #[] #[], .slice a len cap] W (AllO J F0 (pre ++ zs) W) := by
  have LN := Lib.hid hr.len
  have R0 := Lib.hid hr
  have NE := Lib.hid hne
  have HY := Lib.hid hY
  have H0 := Lib.hid h0
  have LT := Lib.hid hlt
  have HZ := Lib.hid hz
  clear hr hne hY h0 hlt hz
  refine callsIn_of_wp Try.func31 rfl trivial ?_ rfl
  simp only [Try.ntmps31, List.size_toArray, List.length_cons, List.length_nil, Nat.reduceAdd, Nat.reduceSub, Array.replicate_succ, Array.replicate_zero, List.push_toArray, List.append_toArray, List.nil_append, List.cons_append]
  gi_wp2
  gi_loopw [9] (fun u wr => ∃ (i : Nat) (F : Nat → Prop), u = .int .i64 i ∧ i ≤ len ∧ J F (pre ++ zs.take i) wr ∧ Moves F0 F W wr ∧ Row .i64 wr a len cap zs ∧ ∀ ad : Addr, 0 < len → a = some ad → ¬ F ad.block)
    (fun u _ => len - (intOf u).toNat)
  case atStart => exact ⟨0, F0, rfl, by omega, by simpa using H0.out, Moves.refl LT.out, R0.out, fun ad _ e => NE.out ad e⟩
  case round =>
    obtain ⟨i, F, rfl, i1, hj, hm, hr, hf⟩ := hrel
    have JJ := Lib.hid hj
    have MM := Lib.hid hm
    have RR := Lib.hid hr
    have FF := Lib.hid hf
    clear hj hm hr hf
    by_cases go : i < len
    · have b1 : decide ((i : Int) < (len : Int)) = true := by simp; omega
      have b1' : decide (i < len) = true := by simp; omega
      obtain ⟨z, hz, hts⟩ := get_of (l := zs) (i := i) (by rw [LN.out]; exact go)
      have TS := Lib.hid (show pre ++ zs.take (i + 1) = (pre ++ zs.take i) ++ [z] by rw [hts, List.append_assoc])
      obtain ⟨ba, oa, rfl, hcell⟩ := RR.out.cell go
      have hd : zs.getD i 0 = z := by rw [List.getD_eq_getElem?_getD, hz]; rfl
      rw [hd] at hcell
      have i3 : (i : Int) < (len : Int) := by omega
      have i0 : 0 ≤ (i : Int) := by omega
      obtain ⟨fn, tmps, assign, body, hy, hRR⟩ := yieldAt_any (n - 1) (HY.out F _ z wr JJ.out (by rw [List.length_append, List.length_take]; omega) (HZ.out z (List.mem_of_getElem? hz)))
      clear hz hts hd
      gi_wp2
      refine ⟨fun h => (by cases h), hRR.mono ?_⟩
      rintro e3 W3 ⟨rfl, F', hj3, hm3⟩
      have J3 := Lib.hid (show J F' (pre ++ zs.take (i + 1)) W3 by rw [TS.out]; exact hj3)
      have M3 := Lib.hid (MM.out.trans hm3)
      have nf := FF.out _ (by omega) rfl
      have R3 := Lib.hid (row_keeps RR.out hm3.keeps (fun ad e => by cases e; exact nf))
      have F3 := Lib.hid (show ∀ ad : Addr, 0 < len → some ⟨ba, oa, none⟩ = some ad → ¬ F' ad.block from fun ad _ e q => by
        cases e
        rcases hm3.grow _ q with z | z
        · exact nf z
        · exact absurd (World.block_lt_of_cell? _ _ hcell) (Nat.not_lt.mpr z))
      clear hj3 hm3 hy hRR hcell nf
      gi_wp2
      go_roundw
      case rel => exact ⟨i + 1, F', by go_num, by omega, J3.out, M3.out, R3.out, F3.out⟩
      case measure => simp [intOf]; omega
    · have b1 : decide ((i : Int) < (len : Int)) = false := by simp; omega
      have b1' : decide (i < len) = false := by simp; omega
      have J3 := Lib.hid (show J F (pre ++ zs) wr by have := JJ.out; rwa [List.take_of_length_le (by rw [LN.out]; omega)] at this)
      gi_wp2
      go_ret
      exact ⟨rfl, F, J3.out, MM.out⟩
end
end Go.Proofs.Ytlcagjmppmajeaa

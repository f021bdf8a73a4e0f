/-
  What package nat's divide gives back: contracts.
-/
import Derived.Test.YtenibpnifnlfeaaNat4
namespace Go.Proofs.Ytenibpnifnlfeaa
open Go.RowKit

/-- the row at g is divided where it lies; what is left is told -/
def Divides (w : World) (g : Nat) (zs : List Int) (d : Int) (e : Ending) (w' : World) : Prop :=
  e = .returned (.int .u32 (val 4294967296 zs % d)) ∧ ∃ qs, qs.length = zs.length ∧ Digs 4294967296 qs ∧ val 4294967296 qs = val 4294967296 zs / d ∧ Mine w' g qs ∧ w.grownBy w' (some g)

theorem or_limb {r x : Int} (r0 : 0 ≤ r) (r1 : r < 4294967296) (x0 : 0 ≤ x) (x1 : x < 4294967296) : bits .or .u64 (r * 4294967296) x = r * 4294967296 + x := by
  obtain ⟨a, rfl⟩ := Int.eq_ofNat_of_zero_le r0
  obtain ⟨b, rfl⟩ := Int.eq_ofNat_of_zero_le x0
  have e := u64_or_nat (a * 4294967296) b (by omega) (by omega)
  have e2 : a * 4294967296 ||| b = a * 4294967296 + b := by
    have := Nat.shiftLeft_add_eq_or_of_lt (i := 32) (b := b) (by omega) a
    rw [Nat.shiftLeft_eq] at this
    exact this.symm
  rw [e2] at e
  have c : (a : Int) * 4294967296 = ((a * 4294967296 : Nat) : Int) := by omega
  rw [c, e]
  omega
theorem limb_quo {r x d : Int} (hd : 0 < d) (r0 : 0 ≤ r) (r1 : r < d) (x0 : 0 ≤ x) (x1 : x < 4294967296) : 0 ≤ (r * 4294967296 + x) / d ∧ (r * 4294967296 + x) / d < 4294967296 := by
  refine ⟨Int.ediv_nonneg (by omega) (by omega), Int.ediv_lt_of_lt_mul hd ?_⟩
  omega
theorem limb_step {V W d r x n q r' : Int} (hn : r * 4294967296 + x = n) (h : V * d + r = W) (hq : n = q * d + r') : (q + 4294967296 * V) * d + r' = x + 4294967296 * W := by
  rw [Int.add_mul, Int.mul_assoc, ← h]
  omega
theorem digs_setB {B : Int} {ds : List Int} {i : Nat} {q : Int} (h : Digs B ds) (hq : 0 ≤ q ∧ q < B) : Digs B (ds.set i q) := fun z hz => by
  rcases List.mem_or_eq_of_mem_set hz with h' | rfl
  · exact h z h'
  · exact hq
theorem grown_set {w wr : World} {g : Nat} (h : w.grownBy wr (some g)) (j : Nat) (u : Value) : w.grownBy (wr.setCell ⟨g, j, none⟩ u) (some g) :=
  ⟨h.os, h.tape, h.output, by simpa [World.setCell] using h.size, fun k hk hne => (Below.heap_setCell wr ⟨g, j, none⟩ u k (fun e => hne (by rw [e]))).trans (h.block k hk hne)⟩

theorem divide_mine (g len cap : Nat) (zs : List Int) (d : Int) (w : World) (hm : Mine w g zs) (hl : zs.length = len) (hlc : len ≤ cap) (hc : cap ≤ 9223372036854775807)
    (hd : Digs 4294967296 zs) (d0 : 0 < d) (d1 : d < 4294967296) :
    Calls Try.prog 64 #[.slice (some ⟨g, 0, none⟩) len cap, .int .u32 d] w (Divides w g zs d) := by
  have HM := Lib.hid hm
  have HL := Lib.hid hl
  have HD := Lib.hid hd
  clear hm hl hd
  go_enter Try.func64, Try.ntmps64
  go_wp2
  go_loopw [5, 11] (fun u v wr => ∃ (r : Int) (j i : Nat) (ds : List Int), u = .int .u64 r ∧ v = .int .i64 i ∧ j + i = len ∧ 0 ≤ r ∧ r < d ∧ ds.length = len ∧ Digs 4294967296 ds ∧ ds.take j = zs.take j ∧ val 4294967296 (ds.drop j) * d + r = val 4294967296 (zs.drop j) ∧ Mine wr g ds ∧ w.grownBy wr (some g)) (fun _ v _ => len - (intOf v).toNat)
  case atStart =>
    refine ⟨0, len, 0, zs, rfl, rfl, rfl, by omega, d0, HL.out, HD.out, rfl, ?_, HM.out, ⟨rfl, rfl, rfl, Nat.le_refl _, fun _ _ _ => rfl⟩⟩
    rw [List.drop_eq_nil_of_le (by rw [HL.out]; omega)]; simp [val]
  case round =>
    obtain ⟨r, j, i, ds, rfl, rfl, hji, r0, r1, hdl, hdg, htk, hval, hmi, hgr⟩ := hrel
    have HDl := Lib.hid hdl
    have HDg := Lib.hid hdg
    have HT := Lib.hid htk
    have HVal := Lib.hid hval
    have HMi := Lib.hid hmi
    have HG := Lib.hid hgr
    clear hdl hdg htk hval hmi hgr
    cases j with
    | zero =>
      have b1 : decide (i < len) = false := by simp; omega
      have E := Lib.hid (show val 4294967296 zs / d = val 4294967296 ds ∧ val 4294967296 zs % d = r by
        have := HVal.out
        rw [List.drop_zero, List.drop_zero] at this
        exact (Int.ediv_emod_unique d0).mpr ⟨by rw [← this, Int.mul_comm]; omega, r0, r1⟩)
      go_wp2
      go_ret
      exact ⟨ret_one E.out.2.symm, ds, by rw [HDl.out, HL.out], HDg.out, E.out.1.symm, HMi.out, HG.out⟩
    | succ j =>
      have hc1 := HMi.out.cell (i := j) (by rw [HDl.out]; omega)
      have hfz := HMi.out.free j
      obtain ⟨x, hx⟩ : ∃ x, ds.getD j 0 = x := ⟨_, rfl⟩
      obtain ⟨x1, x2⟩ := HDg.out.getD (by omega) j
      rw [hx] at hc1 x1 x2
      have HX := Lib.hid hx
      clear hx
      obtain rfl : len = j + 1 + i := by omega
      clear hji
      have HX2 := Lib.hid (show zs.getD j 0 = x by
        have h1 : (ds.take (j + 1)).getD j 0 = (zs.take (j + 1)).getD j 0 := by rw [HT.out]
        rw [List.getD_eq_getElem?_getD, List.getElem?_take_of_lt (by omega), ← List.getD_eq_getElem?_getD, HX.out, List.getD_eq_getElem?_getD, List.getElem?_take_of_lt (by omega), ← List.getD_eq_getElem?_getD] at h1
        exact h1.symm)
      obtain ⟨N, hN⟩ : ∃ N, r * 4294967296 + x = N := ⟨_, rfl⟩
      have hor : bits .or .u64 (r * 4294967296) x = N := by rw [← hN]; exact or_limb r0 (by omega) x1 x2
      have n0 : 0 ≤ N := by omega
      have n1 : N ≤ 18446744073709551615 := by omega
      have ⟨q0, q1⟩ := limb_quo d0 r0 r1 x1 x2
      rw [hN] at q0 q1
      have m0 : 0 ≤ N % d := Int.emod_nonneg _ (by omega)
      have m1 : N % d < d := Int.emod_lt_of_pos _ d0
      have HN := Lib.hid hN
      clear hN
      have HNx := Lib.hid (show val 4294967296 ((ds.set j (N / d)).drop j) * d + N % d = val 4294967296 (zs.drop j) by
        rw [drop_set (by rw [HDl.out]; omega), val, val_drop 4294967296 zs j, HX2.out]
        exact limb_step HN.out HVal.out (quo_rem _ _))
      have HTx := Lib.hid (show (ds.set j (N / d)).take j = zs.take j by
        rw [List.take_set_of_le (Nat.le_refl _)]
        have := congrArg (List.take j) HT.out
        rwa [List.take_take, List.take_take, Nat.min_eq_left (by omega)] at this)
      go_wp2
      go_roundw
      case rel =>
        refine ⟨_, j, i + 1, ds.set j (N / d), rfl, by go_num, by omega, m0, m1, by rw [List.length_set]; exact HDl.out, digs_setB HDg.out ⟨q0, q1⟩, HTx.out, HNx.out, HMi.out.set j _, ?_⟩
        exact grown_set HG.out j _
      case measure => simp [intOf]; omega
end Go.Proofs.Ytenibpnifnlfeaa

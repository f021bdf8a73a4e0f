/-
  What the document's digits give back: div, Limbs: contracts.
-/
import Derived.Test.YtenibpnifnlfeaaNatRef4
namespace Go.Proofs.Ytenibpnifnlfeaa
open Go.RowKit

theorem made_zeros (k : IntKind) (n : Nat) : (madeCells (Value.int k 0).cells (n * 1)).toList = (List.replicate n (0 : Int)).map (Value.int k) := by
  rw [Nat.mul_one, show (Value.int k 0).cells = #[Value.int k 0] from rfl, toList_madeCells_one, List.map_replicate]
theorem digs_zeros (n : Nat) : Digs 10 (List.replicate n (0 : Int)) := fun z hz => by
  rw [List.mem_replicate] at hz; rw [hz.2]; omega
theorem digs_set {ds : List Int} {i : Nat} {q : Int} (h : Digs 10 ds) (hq : 0 ≤ q ∧ q < 10) : Digs 10 (ds.set i q) := fun z hz => by
  rcases List.mem_or_eq_of_mem_set hz with h' | rfl
  · exact h z h'
  · exact hq
theorem drop_set {ds : List Int} {i : Nat} {q : Int} (h : i < ds.length) : (ds.set i q).drop i = q :: ds.drop (i + 1) := by
  rw [List.drop_eq_getElem_cons (by rw [List.length_set]; exact h), List.getElem_set_self, List.drop_set_of_lt (by omega)]
theorem div_step {V W k r x n q r' : Int} (hn : n = r * 10 + x) (h : V * k + r = W) (hq : n = q * k + r') : (q + 10 * V) * k + r' = x + 10 * W := by
  rw [Int.add_mul, Int.mul_assoc, ← h]
  omega
theorem quo_rem (n k : Int) : n = n / k * k + n % k := by
  have := Int.mul_ediv_add_emod n k
  rw [Int.mul_comm] at this
  omega
theorem quo_bd {r x k : Int} (hk : 0 < k) (r0 : 0 ≤ r) (r1 : r < k) (x0 : 0 ≤ x) (x1 : x < 10) : 0 ≤ (r * 10 + x) / k ∧ (r * 10 + x) / k < 10 := by
  refine ⟨Int.ediv_nonneg (by omega) (by omega), Int.ediv_lt_of_lt_mul hk ?_⟩
  omega

/-- a whole part, and what is left -/
def Parts (w : World) (n k : Int) (e : Ending) (w' : World) : Prop :=
  ∃ a len cap zs, e = .returned (.tuple #[.slice a len cap, .int .i64 (n % k)]) ∧ Row .i64 w' a len cap zs ∧ Is 10 zs (n / k) ∧ (∀ ad : Addr, a = some ad → w.heap.size ≤ ad.block) ∧ Below w.heap.size w w'

theorem div_any (a : Option Addr) (la ca : Nat) (za : List Int) (k : Int) (w : World)
    (ha : Row .i64 w a la ca za) (da : Digs 10 za) (la6 : la ≤ 1000000) (k0 : 0 < k) (k1 : k ≤ 4294967296) :
    Calls Try.prog 66 #[.slice a la ca, .int .i64 k] w (Parts w (val 10 za) k) := by
  obtain ⟨i0, hi, hz0, hz1, hz2⟩ := info_parts Try.infoInt
  have HA := Lib.hid ha
  have DA := Lib.hid da
  have LA := Lib.hid ha.len
  clear ha da
  have hby : i0.bytes * la ≤ 281474976710656 := by rw [hz2]; omega
  have HBY := Lib.hid hby
  clear hby
  go_enter Try.func66, Try.ntmps66
  go_wp2_with (at_make; refine wpList_make_full _ rfl _ _ 70 rfl w.heap.size 3 i0 (.int .i64 0) 1 Try.underlying70 hi hz0 hz1 _ _ _ _ la rfl rfl rfl rfl HBY.out (by unfold maxLen; omega) (Nat.le_refl _) ?_; intro w1 hown hgrow; have HO := Lib.hid hown; have HG := Lib.hid hgrow; clear hown hgrow)
  go_loopw [7, 8] (fun u i wr => ∃ (r c : Int) (j : Nat) (ds : List Int), u = .int .i64 r ∧ i = .int .i64 c ∧ c = j - 1 ∧ j ≤ la ∧ 0 ≤ r ∧ r < k ∧ ds.length = la ∧ Digs 10 ds ∧ val 10 (ds.drop j) * k + r = val 10 (za.drop j) ∧ wr.ownsRow w.heap.size 3 1 (.slice (some ⟨w.heap.size, 0, none⟩) la la) la (ds.map (Value.int .i64)) ∧ Below w.heap.size w wr) (fun _ i _ => (intOf i + 1).toNat)
  case atStart =>
    refine ⟨0, _, la, List.replicate la 0, rfl, rfl, rfl, Nat.le_refl _, by omega, k0, List.length_replicate, digs_zeros la, ?_, ?_, (Below.refl _ _).grown HG.out (Nat.le_refl _) (fun g hg => by cases hg)⟩
    · rw [List.drop_eq_nil_of_le (by rw [List.length_replicate]; omega), List.drop_eq_nil_of_le (by rw [LA.out]; omega)]; simp [val]
    · rw [← made_zeros]; exact HO.out
  case round =>
    obtain ⟨r, c, j, ds, rfl, rfl, hcj, hj, r0, r1, hdl, hdg, hval, hown, hbel⟩ := hrel
    have HDl := Lib.hid hdl
    have HDg := Lib.hid hdg
    have HVal := Lib.hid hval
    have HO2 := Lib.hid hown
    have HW := Lib.hid hbel
    clear hdl hdg hval hown hbel
    cases j with
    | zero =>
      obtain rfl : c = -1 := by omega
      clear hcj
      have e : val 10 za / k = val 10 ds ∧ val 10 za % k = r := by
        have := HVal.out
        rw [List.drop_zero, List.drop_zero] at this
        exact (Int.ediv_emod_unique k0).mpr ⟨by rw [← this, Int.mul_comm]; omega, r0, r1⟩
      obtain ⟨a5, c5, hv5, hrow5, _⟩ := row_of_owns HO2.out
      simp only [Value.slice.injEq] at hv5
      obtain ⟨rfl, _, rfl⟩ := hv5
      have E := Lib.hid e
      have HR5 := Lib.hid hrow5
      clear e hrow5
      go_wp2_with (go_at_call 67; refine (cut_at 10 _ _ _ ds _ HR5.out HDg.out).mono ?_; rintro e w' ⟨l2, zs2, rfl, hr2, hp2, rfl⟩; have HR2 := Lib.hid hr2; have HP2 := Lib.hid hp2; clear hr2 hp2)
      go_ret2
      exact ⟨_, _, _, _, ret_vi E.out.2.symm, HR2.out, by rw [E.out.1]; exact HP2.out, (fun ad h => by cases h; exact Nat.le_refl _), HW.out⟩
    | succ i =>
      obtain rfl : c = (i : Int) := by omega
      clear hcj
      obtain ⟨ba, oa, rfl, hca⟩ := (HA.out.below HW.out).cell (show i < la by omega)
      obtain ⟨x1, x2⟩ := DA.out.getD (by omega) i
      obtain ⟨x, hx⟩ : ∃ x, za.getD i 0 = x := ⟨_, rfl⟩
      rw [hx] at hca x1 x2
      have HX := Lib.hid hx
      clear hx
      have i1 : (i : Int) < (la : Int) := by omega
      have ⟨q1, q2⟩ := quo_bd k0 r0 r1 x1 x2
      have m1 : 0 ≤ (r * 10 + x) % k := Int.emod_nonneg _ (by omega)
      have m2 : (r * 10 + x) % k < k := Int.emod_lt_of_pos _ k0
      have hcell : wr.cell? ⟨w.heap.size, i, none⟩ = some (.int .i64 (ds.getD i 0)) := by
        rw [HO2.out.cellAt i (by omega), List.getElem?_map, List.getElem?_eq_getElem (by rw [HDl.out]; omega), List.getD_eq_getElem?_getD, List.getElem?_eq_getElem (by rw [HDl.out]; omega)]; rfl
      obtain ⟨d0, hd0⟩ : ∃ d0, ds.getD i 0 = d0 := ⟨_, rfl⟩
      rw [hd0] at hcell
      clear hd0
      have hfz := HO2.out.frozenAt i
      have HN := Lib.hid (show val 10 ((ds.set i ((r * 10 + x) / k)).drop i) * k + (r * 10 + x) % k = val 10 (za.drop i) by
        rw [drop_set (by rw [HDl.out]; omega), val, val_drop 10 za i, HX.out]
        exact div_step rfl HVal.out (quo_rem _ _))
      go_wp2
      go_roundw
      case rel =>
        refine ⟨_, _, i, ds.set i ((r * 10 + x) / k), rfl, rfl, rfl, by omega, m1, m2, by rw [List.length_set]; exact HDl.out, digs_set HDg.out ⟨q1, q2⟩, HN.out, ?_, HW.out.setCell (Nat.le_refl _) _⟩
        rw [List.map_set]
        exact (HO2.out.stored i _).1
      case measure => simp [intOf] <;> omega

theorem Is.zero_or {B n : Int} {zs : List Int} (h : Is B zs n) (hl : zs.length = 0) : n = 0 := by
  rw [List.length_eq_zero_iff.mp hl] at h; exact h.2.2.symm
theorem Is.pos {B n : Int} {zs : List Int} (hB : 0 < B) (h : Is B zs n) (hl : 0 < zs.length) : 0 < n := by
  have h1 := h.nonneg hB
  rcases Int.lt_or_le 0 n with g | g
  · exact g
  · have := top_zero hB h.1 h.2.1 (by rw [h.2.2]; omega)
    rw [this] at hl; simp at hl

theorem quo_len {zd z2 : List Int} {c : Int} (h : Is 10 zd c) (h2 : Is 10 z2 (c / 4294967296)) (hc : 0 < c) : z2.length < zd.length := by
  have h1 := val_lt (by omega) h.1
  rw [h.2.2] at h1
  cases hz : zd.length with
  | zero => rw [hz] at h1; simp at h1; omega
  | succ m =>
    rw [hz, Int.pow_succ] at h1
    have := h2.len_le (L := m) (by omega) (by omega)
    omega

theorem limbs_any (a : Option Addr) (la ca : Nat) (za : List Int) (n : Int) (w : World) (ha : Row .i64 w a la ca za) (ia : Is 10 za n) (la6 : la ≤ 100000) :
    Calls Try.prog 50 #[.slice a la ca] w (Gives .u32 w fun r => Is 4294967296 r n) := by
  obtain ⟨i0, hi, hz0, hz1, hz2⟩ := info_parts Try.infoU32
  have HA := Lib.hid ha
  have IA := Lib.hid ia
  clear ha ia
  go_enter Try.func50, Try.ntmps50
  go_wp2
  go_loopw [0, 3] (fun u v wr => ∃ (i : Nat) (c : Int) (ds : List Int) (ad : Option Addr) (ld cd : Nat) (zd : List Int), u = .slice ad ld cd ∧ Row .i64 wr ad ld cd zd ∧ Is 10 zd c ∧ i + ld ≤ la ∧ wr.ownsRow w.heap.size 38 1 v i (ds.map (Value.int .u32)) ∧ Digs 4294967296 ds ∧ ds.length = i ∧ val 4294967296 ds + 4294967296 ^ i * c = n ∧ (c = 0 → Top ds) ∧ Below w.heap.size w wr) (fun u _ _ => lenOf u)
  case atStart => exact ⟨0, n, [], a, la, ca, za, rfl, HA.out, IA.out, by omega, World.ownsRow_nil _ _ _ _, Digs.nil, rfl, by simp [val], (fun _ => by simp [Top]), Below.refl _ _⟩
  case round =>
    obtain ⟨i, c, ds, ad, ld, cd, zd, rfl, hrow, hic, hil, hown, hdg, hdl, hval, htop, hbel⟩ := hrel
    have HR := Lib.hid hrow
    have HI := Lib.hid hic
    have HO := Lib.hid hown
    have HDg := Lib.hid hdg
    have HDl := Lib.hid hdl
    have HVal := Lib.hid hval
    have HTop := Lib.hid htop
    have HW := Lib.hid hbel
    have hsz := hbel.size
    have ⟨c1, c2⟩ := hrow.cap_le
    clear hrow hic hown hdg hdl hval htop hbel
    by_cases g : 0 < ld
    · have cp := HI.out.pos (by omega) (by rw [HR.out.len]; exact g)
      have b1 : decide (0 < ld) = true := by simp; omega
      have q1 : 0 ≤ c % 4294967296 := by omega
      have q2 : c % 4294967296 < 4294967296 := by omega
      have HN := Lib.hid (small_next (B := 4294967296) (d := c % 4294967296) (q := c / 4294967296) HDl.out (by omega) HVal.out)
      have HC := Lib.hid cp
      clear cp
      go_wp2_with (first
        | (go_at_call 66; refine (div_any _ _ _ zd _ _ HR.out HI.out.1 (by omega) (by omega) (by omega)).mono ?_; rintro e w2 ⟨a2, l2, cp2, z2, rfl, hr2, hi2, hf2, hb2⟩; rw [HI.out.2.2] at hi2; rw [HI.out.2.2]; have HR2 := Lib.hid hr2; have HI2 := Lib.hid hi2; have HF2 := Lib.hid hf2; have HB2 := Lib.hid hb2; have hsz2 := HB2.out.size; have HO1 := Lib.hid (owns_below HO.out HB2.out); clear hr2 hi2 hf2 hb2)
        | (at_builtin; refine wpList_append_own _ rfl _ _ 24 rfl w.heap.size 38 i0 (.int .u32 0) 1 4 Try.underlying24 hi hz0 hz1 hz2 rfl (by decide) _ _ _ rfl (HO1.out.alloc _) ⟨w2.heap.size, 0, none⟩ 1 1 [.int .u32 (c % 4294967296)] rfl rfl (one_new _ _ _) (one_cell _ _) (by unfold maxLen; omega) (by omega) (by simp; omega) ?_; intro v3 w3 hown3 hgrow3 hnil3; have HO3 := Lib.hid hown3; have HG3 := Lib.hid hgrow3; clear hown3 hgrow3 hnil3))
      go_roundw
      case rel =>
        have hl := quo_len HI.out HI2.out HC.out
        rw [HR.out.len, HR2.out.len] at hl
        have hr3 : Row .i64 w3 a2 l2 cp2 z2 := (HR2.out.below ((Below.refl _ _).alloc (Nat.le_refl _) _)).apart HG3.out (fun ad had e => by
          have h1 := HF2.out ad had
          have h2 := (HO.out.lt _ e.symm).2
          omega)
        exact ⟨i + 1, c / 4294967296, ds ++ [c % 4294967296], a2, l2, cp2, z2, rfl, hr3, HI2.out, by omega, owns_snoc HO3.out, HDg.out.snoc ⟨by omega, by omega⟩, by simp [HDl.out], HN.out, (fun e => top_snoc (by have := HC.out; omega)), below_append (below_next HW.out HB2.out) HO1.out HG3.out⟩
      case measure =>
        have hl := quo_len HI.out HI2.out HC.out
        rw [HR.out.len, HR2.out.len] at hl
        simp [lenOf]; omega
    · obtain rfl : c = 0 := HI.out.zero_or (by rw [HR.out.len]; omega)
      have b1 : decide (0 < ld) = false := by simp; omega
      have hv : val 4294967296 ds = n := by have := HVal.out; simpa using this
      obtain ⟨a', cap', rfl, hrow, hfr⟩ := row_of_owns HO.out
      have HF := Lib.hid hfr
      clear hfr
      have HR' := Lib.hid hrow
      have HV := Lib.hid hv
      have HT := Lib.hid (HTop.out rfl)
      clear hrow hv HTop
      go_wp2
      go_ret
      exact ⟨_, _, _, _, rfl, HR'.out, ⟨HDg.out, HT.out, HV.out⟩, HW.out, HF.out⟩
end Go.Proofs.Ytenibpnifnlfeaa

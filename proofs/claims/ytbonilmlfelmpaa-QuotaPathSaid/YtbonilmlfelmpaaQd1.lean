/-
  The walk of QuotaPath.
-/
import Derived.Test.YtbonilmlfelmpaaQc2
import Derived.Deep.RegionHeld3
import Derived.Deep.DeepCutAuto
namespace Go.Proofs.Ytbonilmlfelmpaa
open Go.RowKit

theorem path_next {S : List Sv} (g : GoodSv S) : ∀ s, -1 ≤ s → s < (S.length : Int) → ∀ (i : Nat), i + 1 < (pathV S s).length → ∃ v : Sv, 0 ≤ (pathV S s).getD i 0 ∧ S[((pathV S s).getD i 0).toNat]? = some v ∧ v.par = (pathV S s).getD (i + 1) 0 ∧ v.par < (pathV S s).getD i 0 := by
  refine path_ind g (p := fun s => ∀ (i : Nat), i + 1 < (pathV S s).length → ∃ v : Sv, 0 ≤ (pathV S s).getD i 0 ∧ S[((pathV S s).getD i 0).toNat]? = some v ∧ v.par = (pathV S s).getD (i + 1) 0 ∧ v.par < (pathV S s).getD i 0) (fun i hi => ?_) (fun s v a b c d ih i hi => ?_)
  · rw [pathV_neg S (s := -1) (by omega)] at hi
    simp at hi
  · rw [pathV_step g a b] at hi ⊢
    cases i with
    | zero =>
      refine ⟨v, by simpa using a, by simpa using b, ?_, by simpa using d⟩
      simp only [List.getD_cons_succ]
      by_cases h0 : v.par < 0
      · rw [pathV_neg S h0]
        have : v.par = -1 := by omega
        simpa using this
      · have hl : v.par < (S.length : Int) := by
          have := (List.getElem?_eq_some_iff.mp b).1
          omega
        obtain ⟨t, ht⟩ := path_head g ⟨c, hl⟩
        rw [ht]
        rfl
    | succ i =>
      simp only [List.length_cons] at hi
      simp only [List.getD_cons_succ]
      exact ih i (by omega)
theorem path_end {S : List Sv} (g : GoodSv S) : ∀ s, -1 ≤ s → s < (S.length : Int) → (pathV S s).getD ((pathV S s).length - 1) 0 = -1 := by
  refine path_ind g (p := fun s => (pathV S s).getD ((pathV S s).length - 1) 0 = -1) ?_ (fun s v a b c d ih => ?_)
  · rw [pathV_neg S (s := -1) (by omega)]; rfl
  · rw [pathV_step g a b, List.length_cons]
    have : 0 < (pathV S v.par).length := List.length_pos_iff.mpr (path_ne S v.par)
    obtain ⟨m, hm⟩ : ∃ m, (pathV S v.par).length = m + 1 := ⟨(pathV S v.par).length - 1, by omega⟩
    rw [hm] at ih ⊢
    simp only [Nat.add_sub_cancel, List.getD_cons_succ] at ih ⊢
    exact ih
theorem path_first {S : List Sv} (g : GoodSv S) {s : Int} (h : -1 ≤ s ∧ s < (S.length : Int)) : (pathV S s).getD 0 0 = s := by
  obtain ⟨t, ht⟩ := path_head g h
  rw [ht]; rfl
set_option maxRecDepth 20000 in
set_option maxHeartbeats 4000000 in
theorem qpath_walk (pa : Option Addr) (pl pc : Nat) (zs : List Int) (qa : Option Addr) (ql qc : Nat) (qs : List (Int × Int)) (a b : Int) (s : Int) (w : World) (hp : Row .i64 w pa pl pc zs) (hq : RowP w qa ql qc qs) :
    Calls Try.prog 4 #[.agg #[.slice pa pl pc, .slice qa ql qc, .int .i64 a, .int .i64 b], .int .i64 s] w fun e w' => e = .returned (.bool true) ∧ Below w.heap.size w w' := by
  obtain ⟨W1, hW1⟩ : ∃ W1, w.alloc (.cells #[.slice pa pl pc, .slice qa ql qc, .int .i64 a, .int .i64 b] 45) = W1 := ⟨_, rfl⟩
  have B1 := Lib.hid (show Below w.heap.size w W1 by rw [← hW1]; exact wbox _ _)
  have K := Lib.hid (show Blk W1 45 w.heap.size #[.slice pa pl pc, .slice qa ql qc, .int .i64 a, .int .i64 b] by rw [← hW1]; exact Blk.new _ _ _)
  have P := Lib.hid hp
  have Q := Lib.hid hq
  clear hp hq
  obtain ⟨n, hn⟩ : ∃ n, min pl 8 = n := ⟨_, rfl⟩
  have HN := Lib.hid hn
  have GS := Lib.hid (servV_good zs qs (n := n) (by omega))
  have LS := Lib.hid (servV_len zs qs n)
  obtain ⟨⟨N, D⟩, hall⟩ : ∃ r, allV a b = r := ⟨_, rfl⟩
  have AB := Lib.hid (allV_bd a b)
  rw [hall] at AB
  have HA := Lib.hid hall
  clear hn hall
  go_enter Try.func4, Try.ntmps4
  go_wp2_with fail
  (try rw [hW1])
  clear hW1
  refine (awake13_any _).mono ?_
  rintro e w2 ⟨rfl, hb⟩
  have B := Lib.hid (below_next B1.out hb)
  have K1 := Lib.hid (K.out.below hb)
  have k0 := K1.out.cell 0; have k1 := K1.out.cell 1; have k2 := K1.out.cell 2; have k3 := K1.out.cell 3
  simp at k0 k1 k2 k3
  clear hb
  go_wp2_with fail
  refine (servers_any pa pl pc zs qa ql qc qs a b _ (P.out.below B.out) (Q.out.below B.out) n HN.out).mono ?_
  rintro e w3 ⟨sa, sc, rfl, hs, hf, hb⟩
  have RS := Lib.hid hs
  have FS := Lib.hid (hf.mono B.out.size)
  have K2 := Lib.hid (K1.out.below hb)
  have B := Lib.hid (below_next B.out hb)
  clear hb hs hf k0 k1 k2 k3
  have k0 := K2.out.cell 0; have k1 := K2.out.cell 1; have k2 := K2.out.cell 2; have k3 := K2.out.cell 3
  simp at k0 k1 k2 k3
  go_wp2_with fail
  refine (all13_any pa pl pc qa ql qc a b _ N D HA.out).mono ?_
  rintro e w4 ⟨v, rfl, hr, hb⟩
  have V := Lib.hid hr
  have RS := Lib.hid (RS.out.below hb)
  have B := Lib.hid (below_next B.out hb)
  clear hb hr k0 k1 k2 k3
  go_wp2_with fail
  refine (m13new (G := G0q) v N D 1 _ sa n sc (servV zs qs n) w _ B.out V.out (by omega) (by have := AB.out; omega) RS.out GS.out (fun _ q => q.elim) (fun _ q => q.elim)).mono ?_
  rintro e w5 ⟨g, rfl, hm, hb⟩
  have M := Lib.hid hm
  have RS := Lib.hid (RS.out.below hb)
  clear hm hb
  go_wp2_with fail
  refine (m13path s M.out).mono ?_
  rintro e w6 ⟨pp, plen, pcap, rfl, hr, _, hb⟩
  have RS := Lib.hid (RS.out.below hb)
  have B := Lib.hid (below_next M.out.below hb)
  have R := Lib.hid hr
  have LP := Lib.hid hr.len
  clear hb hr
  by_cases h1 : s < -1
  · have d1 : decide (s < -1) = true := decide_eq_true h1
    obtain rfl : plen = 0 := by rw [← LP.out]; unfold pathQ; rw [has_no (by omega)]; rfl
    clear h1
    go_wp2
    go_ret
    exact ⟨rfl, B.out⟩
  · have d1 : decide (s < -1) = false := decide_eq_false h1
    by_cases h2 : (n : Int) ≤ s
    · have d2 : decide ((n : Int) ≤ s) = true := decide_eq_true h2
      obtain rfl : plen = 0 := by rw [← LP.out]; unfold pathQ; rw [has_no (by have := LS.out; omega)]; rfl
      clear h1 h2
      go_wp2
      go_ret
      exact ⟨rfl, B.out⟩
    · have d2 : decide ((n : Int) ≤ s) = false := decide_eq_false h2
      have HB := Lib.hid (show -1 ≤ s ∧ s < ((servV zs qs n).length : Int) by have := LS.out; omega)
      have PQ := Lib.hid (show pathQ (servV zs qs n) s = pathV (servV zs qs n) s from if_pos (has_is.mpr HB.out))
      rw [PQ.out] at R LP
      have PL := Lib.hid (path_len GS.out s HB.out.1 HB.out.2)
      have pos : 0 < plen := by rw [← LP.out]; exact List.length_pos_iff.mpr (path_ne _ _)
      have bd : plen ≤ 17 := by have h1 := PL.out; have h2 := GS.out.len; have h3 := HB.out; have h4 := LP.out; omega
      have FST := Lib.hid (path_first GS.out HB.out)
      have LST := Lib.hid (path_end GS.out s HB.out.1 HB.out.2)
      have NXT := Lib.hid (path_next GS.out s HB.out.1 HB.out.2)
      rw [LP.out] at LST NXT
      have BDS := Lib.hid (path_bd GS.out s HB.out.1 HB.out.2)
      obtain ⟨p, hpv⟩ : ∃ p, pathV (servV zs qs n) s = p := ⟨_, rfl⟩
      rw [hpv] at R FST LST NXT BDS LP
      obtain ⟨S, hS⟩ : ∃ S, servV zs qs n = S := ⟨_, rfl⟩
      rw [hS] at RS LS NXT
      clear h1 h2 hpv hS
      have ⟨cp1, cp2⟩ := R.out.cap_le
      have ⟨cs1, cs2⟩ := RowF.cap_le RS.out
      obtain ⟨bp, op, rfl, hc0⟩ := R.out.cell pos
      have hcl := R.out.cell (show plen - 1 < plen by omega)
      obtain ⟨bp', op', he', hcl⟩ := hcl
      cases he'
      rw [FST.out] at hc0
      rw [Nat.add_zero] at hc0
      rw [LST.out] at hcl
      obtain ⟨pm, hpm⟩ : ∃ pm : Nat, plen - 1 = pm := ⟨_, rfl⟩
      rw [hpm] at hcl
      have wl : IntKind.i64.wrap ((plen : Int) - 1) = (pm : Int) := by rw [IntWalk.i64_in _ (by omega)]; omega
      have z1 : ((plen : Int) == 0) = false := by simp; omega
      have z2 : (s == s) = true := by simp
      have q1 : (pm : Int) < (plen : Int) := by omega
      have q2 : 0 ≤ (pm : Int) := by omega
      have q3 : (0 : Int) < (plen : Int) := by omega
      have z3 : ¬ plen = 0 := by omega
      go_wp2
      go_loopw [9] (fun u wr => ∃ i : Nat, u = .int .i64 i ∧ 1 ≤ i ∧ i ≤ plen ∧ Below w6.heap.size w6 wr) (fun u _ => plen - (intOf u).toNat)
      case atStart => exact ⟨1, rfl, by omega, by omega, Below.refl _ _⟩
      case round =>
        obtain ⟨i, rfl, i1, il, hbel⟩ := hrel
        have HW := Lib.hid hbel
        clear hbel
        by_cases go : i < plen
        · have t1 : decide (i < plen) = true := decide_eq_true go
          have t2 : decide ((i : Int) < (plen : Int)) = true := decide_eq_true (by omega)
          obtain ⟨m, rfl⟩ : ∃ m, i = m + 1 := ⟨i - 1, by omega⟩
          obtain ⟨sv, n1, n2, n3, n4⟩ := NXT.out m (by omega)
          obtain ⟨x, hx⟩ : ∃ x, p.getD m 0 = x := ⟨_, rfl⟩
          obtain ⟨y, hy⟩ : ∃ y, p.getD (m + 1) 0 = y := ⟨_, rfl⟩
          rw [hx] at n1 n2 n4
          rw [hy] at n3
          obtain ⟨b1, o1, e1, c1⟩ := (R.out.below HW.out).cell (show m < plen by omega)
          cases e1
          obtain ⟨b2, o2, e2, c2⟩ := (R.out.below HW.out).cell go
          cases e2
          rw [hx] at c1
          rw [hy] at c2
          obtain ⟨bs, os, rfl, hat⟩ := (RS.out.below HW.out).at n2
          have c3 := hat.c0
          rw [n3] at c3
          have xn : x < (n : Int) := by
            have := (List.getElem?_eq_some_iff.mp n2).1
            have := LS.out
            omega
          obtain ⟨k, hk⟩ : ∃ k : Nat, x.toNat = k := ⟨_, rfl⟩
          obtain rfl : x = (k : Int) := by omega
          rw [n3] at n4
          simp only [Int.toNat_natCast] at c3
          have e1' : decide ((k : Int) < 0) = false := decide_eq_false (by omega)
          have e2' : decide ((n : Int) ≤ (k : Int)) = false := decide_eq_false (by omega)
          have e3' : (y == y) = true := by simp
          have e5' : decide (n ≤ k) = false := decide_eq_false (by omega)
          have e4' : decide ((k : Int) ≤ y) = false := decide_eq_false (by omega)
          have wm : IntKind.i64.wrap (((m + 1 : Nat) : Int) - 1) = (m : Int) := by rw [IntWalk.i64_in _ (by omega)]; omega
          have wn : IntKind.i64.wrap (((m + 1 : Nat) : Int) + 1) = ((m + 1 : Nat) : Int) + 1 := IntWalk.i64_in _ (by omega)
          have r1 : (m : Int) < (plen : Int) := by omega
          have r2 : 0 ≤ (m : Int) := by omega
          have r3 : ((m + 1 : Nat) : Int) < (plen : Int) := by omega
          have r4 : 0 ≤ ((m + 1 : Nat) : Int) := by omega
          have r5 : (k : Int) < (n : Int) := xn
          have r6 : 0 ≤ (k : Int) := by omega
          have C1 := Lib.hid c1; have C2 := Lib.hid c2; have C3 := Lib.hid c3
          obtain ⟨m1, hm1⟩ : ∃ m1 : Nat, m + 1 = m1 := ⟨_, rfl⟩
          rw [hm1] at c2 C2 wm wn r3 r4 t1 t2 il go ⊢
          have M1 := Lib.hid hm1
          have KEPT := Lib.hid (show ∀ w' : World, Below wr.heap.size wr w' → w'.cell? ⟨bp, op + m, none⟩ = some (.int .i64 (k : Int)) ∧ w'.cell? ⟨bp, op + m1, none⟩ = some (.int .i64 y) ∧ w'.cell? ⟨bs, os + k * 3, none⟩ = some (.int .i64 y) from fun w' h => ⟨hb_cell h C1.out, hb_cell h C2.out, hb_cell h C3.out⟩)
          have BB := Lib.hid (show Below wr.heap.size wr wr.drew from (Below.refl wr.heap.size wr).drew)
          clear hx hy n1 n2 n3 n4 hat hk hm1
          go_upto_region 14 with fail
          go_region_held3 (fun w' => w'.cell? ⟨bp, op + m, none⟩ = some (.int .i64 (k : Int)) ∧ w'.cell? ⟨bp, op + m1, none⟩ = some (.int .i64 y) ∧ w'.cell? ⟨bs, os + k * 3, none⟩ = some (.int .i64 y))
            (first | with_reducible exact KEPT.out _ BB.out)
            (fail)
          all_goals
            go_wp2
            go_roundw
            case rel => exact ⟨m1 + 1, by go_num, by omega, by omega, HW.out.drew⟩
            case measure => simp [intOf]; omega
        · have t1 : decide (i < plen) = false := decide_eq_false go
          have t2 : decide ((i : Int) < (plen : Int)) = false := decide_eq_false (by omega)
          go_wp2
          go_ret
          exact ⟨rfl, below_next B.out HW.out⟩
end Go.Proofs.Ytbonilmlfelmpaa

/-
  The walk of QuotaSums.
-/
import Derived.Test.YtbonilmlfelmpaaQd3
import Derived.Deep.RegionHeld3
import Derived.Deep.DeepCutAuto
namespace Go.Proofs.Ytbonilmlfelmpaa
open Go.RowKit

theorem cmp_64 {n d N D m : Int} (hD : 0 < D) (h1 : n * D = N * d) (h2 : N * 64 = m * D) : cmpI (n * 64) (m * d) = 0 := by
  have e : n * 64 = m * d := by
    have : (n * 64) * D = (m * d) * D := by
      have : (n * 64) * D = (n * D) * 64 := by grind
      rw [this, h1]
      have : N * d * 64 = (N * 64) * d := by grind
      rw [this, h2]
      grind
    exact Int.eq_of_mul_eq_mul_right (by omega) this
  rw [e]
  unfold cmpI
  simp
set_option maxRecDepth 20000 in
set_option maxHeartbeats 8000000 in
theorem qsums_walk (a : Option Addr) (len cap : Nat) (zs : List Int) (b : Option Addr) (len2 cap2 : Nat) (js : List Int) (w : World) (hz : Row .i64 w a len cap zs) (hj : Row .i64 w b len2 cap2 js) :
    Calls Try.prog 3 #[.slice a len cap, .slice b len2 cap2] w fun e w' => e = .returned (.bool true) ∧ Below w.heap.size w w' := by
  have ZR := Lib.hid hz
  have JR := Lib.hid hj
  have ⟨cz1, cz2⟩ := hz.cap_le
  have ⟨cj1, cj2⟩ := hj.cap_le
  clear hz hj
  obtain ⟨n, hn⟩ : ∃ n, min len 6 = n := ⟨_, rfl⟩
  obtain ⟨m, hm⟩ : ∃ m, min len2 20 = m := ⟨_, rfl⟩
  have HN := Lib.hid hn
  have HM := Lib.hid hm
  clear hn hm
  go_enter Try.func3, Try.ntmps3
  go_wp2_with fail
  refine (awake13_any _).mono ?_
  rintro e w1 ⟨rfl, hb⟩
  have B1 := Lib.hid hb
  clear hb
  go_wp2
  go_loopw [6, 7] (fun v u wr => ∃ i : Nat, u = .int .i64 i ∧ i ≤ n ∧ wr.ownsRow w1.heap.size 28 3 v (servO zs i).length ((servO zs i).map Sv.cs).flatten ∧ Below w1.heap.size w1 wr) (fun _ u _ => n - (intOf u).toNat)
  case atStart => exact ⟨0, rfl, by omega, World.ownsRow_nil _ _ _ _, Below.refl _ _⟩
  case round =>
    obtain ⟨i, rfl, il, hown, hbel⟩ := hrel
    have HO := Lib.hid hown
    have HW := Lib.hid hbel
    have hnn := HN.out
    clear hown hbel
    by_cases go : i < n
    · have t1 : decide ((i : Int) < (len : Int)) = true := decide_eq_true (by omega)
      have t2 : decide ((i : Int) < 6) = true := decide_eq_true (by omega)
      obtain ⟨bp, op, rfl, hat⟩ := (ZR.out.below (below_next B1.out HW.out)).cell (show i < len by omega)
      obtain ⟨z, hz⟩ : ∃ z, zs.getD i 0 = z := ⟨_, rfl⟩
      rw [hz] at hat
      have j1 : (i : Int) < (len : Int) := by omega
      have j2 : 0 ≤ (i : Int) := by omega
      have wi : IntKind.i64.wrap ((i : Int) + 1) = (i : Int) + 1 := IntWalk.i64_in _ (by omega)
      have hm1 := Int.tmod_lt_of_pos z (show (0 : Int) < (i : Int) + 1 by omega)
      have hm2 : -((i : Int) + 1) < z.tmod ((i : Int) + 1) := by
        have := Int.tmod_lt_of_pos (-z) (show (0 : Int) < (i : Int) + 1 by omega)
        rw [Int.neg_tmod] at this
        omega
      have pb := parV_bd i z
      have wp : IntKind.i64.wrap ((z.tmod ((i : Int) + 1) + i + 1) % ((i : Int) + 1) - 1) = parV i z := by
        have h0 : 0 ≤ z.tmod ((i : Int) + 1) + i + 1 := by omega
        have e : parV i z = (z.tmod ((i : Int) + 1) + i + 1) % ((i : Int) + 1) - 1 := by unfold parV; rw [Int.tmod_eq_emod_of_nonneg h0]
        rw [← e]
        exact IntWalk.i64_in _ (by omega)
      obtain ⟨pv, hpv⟩ : ∃ pv, parV i z = pv := ⟨_, rfl⟩
      rw [hpv] at wp
      have SV := Lib.hid (show srvO zs i = ⟨pv, 1, 1⟩ by unfold srvO; rw [hz, hpv])
      have SU := Lib.hid (servO_succ zs i)
      have LL := Lib.hid (servO_len zs i)
      have n0 : ¬ (i : Int) + 1 = 0 := by omega
      clear hz hpv pb
      go_wp2_with (at_builtin; refine app_server rfl _ _ rfl w1.heap.size _ (servO zs i) rfl (HO.out.alloc _) _ ⟨pv, 1, 1⟩ rfl (heap_alloc_new _ _) (by have := HW.out.size; simp; omega) (by have := LL.out; omega) ?_; intro v' w' ho hg; have HO2 := Lib.hid ho; have B4 := Lib.hid (show Below w1.heap.size w1 w' from (HW.out.alloc HW.out.size _).grown hg (by have := HW.out.size; simp; omega) (fun k e => (HO.out.lt k e).1)); clear ho hg)
      rw [← SV.out, ← SU.out] at HO2
      go_wp2
      go_roundw
      case rel => exact ⟨i + 1, by go_num, by omega, HO2.out, B4.out⟩
      case measure => simp [intOf]; omega
    · have IE := Lib.hid (show i = n by omega)
      have BT := Lib.hid (below_next B1.out HW.out)
      obtain ⟨sa, sc, rfl, hr, hf⟩ := getS HO.out
      have RS := Lib.hid hr
      have FR := Lib.hid (hf.mono B1.out.size)
      rw [servO_len] at RS ⊢
      rw [IE.out] at RS ⊢
      clear hr hf
      have GSV := Lib.hid (servO_good zs (n := n) (by omega))
      have LS := Lib.hid (servO_len zs n)
      have SG := Lib.hid (show ∀ (i : Nat) (v : Sv), (servO zs n)[i]? = some v → v = srvO zs i from fun i v h => servO_at h)
      have JN := Lib.hid (show ∀ (sv : Nat → Int) (i : Nat), i ≤ 20 → -1 ≤ sv i ∧ sv i < (n : Int) → joinQ (servO zs n) 1 1 (joinsO sv i) (i : Int) (sv i) 1 64 = (0, joinsO sv (i + 1)) from fun sv i hi hs => joinsO_next zs n sv hi hs)
      obtain ⟨S, hS⟩ : ∃ S, servO zs n = S := ⟨_, rfl⟩
      rw [hS] at RS GSV LS JN
      clear hS SG go il
      have N6 := Lib.hid (show n ≤ 6 by have := HN.out; omega)
      have HNN := HN.out
      go_wp2_with fail
      all_goals first | (exfalso; omega) | skip
      all_goals
        clear HNN
        refine (one13_any 1 1 _ (by omega) (by omega) (by omega) (by omega)).mono ?_
        rintro e w3 ⟨v, rfl, hr, hb⟩
        have V := Lib.hid hr
        have RS := Lib.hid (RS.out.below hb)
        have B := Lib.hid (below_next BT.out hb)
        clear hr hb
        go_wp2_with fail
        refine (m13new (G := G0q) v 1 1 1 _ sa n sc S w3 w3 (Below.refl _ _) V.out (by omega) (by omega) RS.out GSV.out (fun _ q => q.elim) (fun _ q => q.elim)).mono ?_
        rintro e w4 ⟨g, rfl, hmn, hb⟩
        have M0 := Lib.hid hmn
        clear hmn hb
        obtain ⟨sv, hsv⟩ : ∃ sv : Nat → Int, (fun k => restV (n + 1) (js.getD k 0)) = sv := ⟨_, rfl⟩
        have SVB := Lib.hid (show ∀ k, sv k = restV (n + 1) (js.getD k 0) ∧ -1 ≤ sv k ∧ sv k < (n : Int) from fun k => by
          rw [← hsv]
          have := restV_bd (n := n + 1) (by omega) (js.getD k 0)
          exact ⟨rfl, this.1, by have h2 := this.2; show restV (n + 1) (js.getD k 0) < (n : Int); omega⟩)
        clear hsv
        have wn : IntKind.i64.wrap ((n : Int) + 1) = (n : Int) + 1 := IntWalk.i64_in _ (by have := N6.out; omega)
        go_wp2
        obtain ⟨W5, hW5⟩ : ∃ W5, w4.alloc (.cells #[.int .i64 0, .int .i64 0, .int .i64 0, .int .i64 0, .int .i64 0, .int .i64 0, .int .i64 0] 36) = W5 := ⟨_, rfl⟩
        have M5 := Lib.hid (show Mine13 w3 (fun k => k = w4.heap.size) g S 1 1 (joinsO sv 0) W5 by rw [← hW5]; exact (M0.out.own1 _).less (fun k q => .inr q))
        have O5 := Lib.hid (show Blk W5 36 w4.heap.size (seven (cntO S sv 0)) by rw [← hW5, show cntO S sv 0 = fun _ => 0 from funext (cntO_zero S sv)]; exact Blk.new _ _ _)
        obtain ⟨ob, hob⟩ : ∃ ob, w4.heap.size = ob := ⟨_, rfl⟩
        rw [hob] at M5 O5
        try rw [hW5]
        try rw [hob]
        clear hW5 hob
        go_loopw [11] (fun u wr => ∃ i : Nat, u = .int .i64 i ∧ i ≤ m ∧ Mine13 w3 (fun k => k = ob) g S 1 1 (joinsO sv i) wr ∧ Blk wr 36 ob (seven (cntO S sv i))) (fun u _ => m - (intOf u).toNat)
        case atStart => exact ⟨0, rfl, by omega, M5.out, O5.out⟩
        case round =>
          obtain ⟨i, rfl, il, hM, hO⟩ := hrel
          have M := Lib.hid hM
          have O := Lib.hid hO
          have hmm := HM.out
          clear hM hO
          by_cases go : i < m
          · have t1 : decide ((i : Int) < (len2 : Int)) = true := decide_eq_true (by omega)
            have t2 : decide ((i : Int) < 20) = true := decide_eq_true (by omega)
            obtain ⟨bj, oj, rfl, hat⟩ := (JR.out.below (below_next B.out M.out.below)).cell (show i < len2 by omega)
            have sb := SVB.out i
            obtain ⟨z, hz⟩ : ∃ z, js.getD i 0 = z := ⟨_, rfl⟩
            rw [hz] at hat sb
            have j1 : (i : Int) < (len2 : Int) := by omega
            have j2 : 0 ≤ (i : Int) := by omega
            have wi : IntKind.i64.wrap ((i : Int) + 1) = (i : Int) + 1 := IntWalk.i64_in _ (by omega)
            have n6 := N6.out
            have hm1 := Int.tmod_lt_of_pos z (show (0 : Int) < (n : Int) + 1 by omega)
            have hm2 : -((n : Int) + 1) < z.tmod ((n : Int) + 1) := by
              have := Int.tmod_lt_of_pos (-z) (show (0 : Int) < (n : Int) + 1 by omega)
              rw [Int.neg_tmod] at this
              omega
            obtain ⟨s, hs⟩ : ∃ s, sv i = s := ⟨_, rfl⟩
            rw [hs] at sb
            have wq : IntKind.i64.wrap (z.tmod ((n : Int) + 1) + ((n : Int) + 1)) = z.tmod ((n : Int) + 1) + ((n : Int) + 1) := IntWalk.i64_in _ (by omega)
            have wp : IntKind.i64.wrap (z.tmod ((n : Int) + 1) % ((n : Int) + 1) - 1) = s := by
              have h0 : 0 ≤ z.tmod ((n : Int) + 1) + ((n : Int) + 1) := by omega
              have e : s = z.tmod ((n : Int) + 1) % ((n : Int) + 1) - 1 := by
                rw [sb.1]; unfold restV
                rw [show ((n + 1 : Nat) : Int) = (n : Int) + 1 by omega, Int.tmod_eq_emod_of_nonneg h0, Int.add_emod_right]
              rw [← e]
              exact IntWalk.i64_in _ (by omega)
            have n0 : ¬ (n : Int) + 1 = 0 := by omega
            have SB := Lib.hid (show -1 ≤ s ∧ s < (S.length : Int) by have := LS.out; omega)
            have JQ := Lib.hid (show joinQ S 1 1 (joinsO sv i) (i : Int) s 1 64 = (0, joinsO sv (i + 1)) by rw [← hs]; exact JN.out sv i (by omega) (by rw [hs]; exact sb.2))
            have CS := Lib.hid (show ∀ k, cntO S sv (i + 1) k = cntO S sv i k + (if ((k : Int) - 1) ∈ pathV S s then 1 else 0) from fun k => by rw [← hs]; exact cntO_succ S sv i k)
            have CB := Lib.hid (show ∀ k, 0 ≤ cntO S sv i k ∧ cntO S sv i k ≤ i from cntO_bd S sv i)
            have LJ := Lib.hid (joinsO_len sv i)
            clear hz hs sb
            go_wp2_with fail
            refine (m13join (i : Int) s 1 64 M.out (by rw [LJ.out]; omega) 0 _ JQ.out).mono ?_
            rintro e w6 ⟨rfl, hM6, hh6, _⟩
            have M6 := Lib.hid hM6
            have O6 := Lib.hid (hh6.blk O.out rfl)
            clear hM6 hh6 hat
            go_wp2
            go_loopw [13] (fun u w7 => ∃ (pre : List Int) (c : Int), u = .int .i64 c ∧ (-1 ≤ c ∧ c < (S.length : Int)) ∧ pathV S s = pre ++ pathV S c ∧ Mine13 w3 (fun k => k = ob) g S 1 1 (joinsO sv (i + 1)) w7 ∧ Blk w7 36 ob (seven (fun k => cntO S sv i k + (if ((k : Int) - 1) ∈ pre then 1 else 0)))) (fun u _ => (intOf u + 1).toNat)
            case atStart => exact ⟨[], s, rfl, SB.out, rfl, M6.out, by simpa using O6.out⟩
            case round =>
              obtain ⟨pre, c, rfl, hc, hp, hM7, hO7⟩ := hrel
              have M7 := Lib.hid hM7
              have O7 := Lib.hid hO7
              have ND := Lib.hid (path_nodup GSV.out s SB.out.1 SB.out.2)
              rw [hp] at ND
              clear hM7 hO7
              rcases place_cases GSV.out hc with rfl | ⟨x, p0, pv, p1, p2, p3⟩
              · have d : decide ((0 : Int) ≤ -1) = false := rfl
                rw [pathV_neg S (s := -1) (by omega)] at hp ND
                have np : (-1 : Int) ∉ pre := fun q => (List.nodup_append.mp ND.out).2.2 (-1) q (-1) (by simp) rfl
                have o0 := O7.out.cell 0
                have f0 := O7.out.free 0
                simp [seven, np] at o0
                have cb := CB.out 0
                have w0 : IntKind.i64.wrap (cntO S sv i 0 + 1) = cntO S sv i 0 + 1 := IntWalk.i64_in _ (by omega)
                have FIN := Lib.hid (show Blk (wr.setCell ⟨ob, 0, none⟩ (.int .i64 (cntO S sv i 0 + 1))) 36 ob (seven (cntO S sv (i + 1))) by
                  have h := O7.out.setH 0 (.int .i64 (cntO S sv i 0 + 1))
                  rw [seven_set _ (by omega)] at h
                  have e : (fun j : Nat => if j = 0 then cntO S sv i 0 + 1 else cntO S sv i j + (if ((j : Int) - 1) ∈ pre then 1 else 0)) = cntO S sv (i + 1) := by
                    funext j
                    rw [CS.out j, hp]
                    by_cases ej : j = 0
                    · subst ej; simp
                    · rw [if_neg ej]
                      have : ((j : Int) - 1 ∈ pre ++ [-1]) ↔ ((j : Int) - 1 ∈ pre) := by
                        simp only [List.mem_append, List.mem_singleton]
                        exact ⟨fun q => q.elim (fun x => x) (fun x => by omega), .inl⟩
                      simp only [this]
                  rw [e] at h
                  exact h)
                have M8 := Lib.hid (M7.out.wrote (G' := fun k => k = ob) (((Keeps.refl (fun k => k = ob) wr).set (.inl rfl) 0 (.int .i64 (cntO S sv i 0 + 1)))) (fun k q => .inl q) (fun k q => by have := M7.out.lies k q; simpa using this))
                clear cb np hp hc
                go_wp2
                go_roundw
                case rel => exact ⟨i + 1, by go_num, by omega, M8.out, FIN.out⟩
                case measure => simp [intOf]; omega
              · have d : decide ((0 : Int) ≤ c) = true := decide_eq_true p0
                obtain ⟨k, hk⟩ : ∃ k : Nat, c.toNat = k := ⟨_, rfl⟩
                obtain rfl : c = (k : Int) := by omega
                have hp' : pathV S s = (pre ++ [(k : Int)]) ++ pathV S x.par := by rw [hp, pathV_step GSV.out p0 pv, List.append_assoc]; rfl
                have np : (k : Int) ∉ pre := fun q => by
                  have := ND.out
                  rw [pathV_step GSV.out p0 pv] at this
                  exact (List.nodup_append.mp this).2.2 (k : Int) q (k : Int) (by simp) rfl
                simp only [Int.toNat_natCast] at pv
                have kn : k < n := by
                  rw [← LS.out]
                  exact (List.getElem?_eq_some_iff.mp pv).1
                have k6 : k < 6 := by have := N6.out; omega
                have o0 := O7.out.cell (k + 1)
                have f0 := O7.out.free (k + 1)
                rw [seven_at _ (by omega)] at o0
                have np' : ¬ (((k + 1 : Nat) : Int) - 1) ∈ pre := by rw [show ((k + 1 : Nat) : Int) - 1 = (k : Int) by omega]; exact np
                rw [if_neg np', Int.add_zero] at o0
                have cb := CB.out (k + 1)
                obtain ⟨y, hy⟩ : ∃ y, cntO S sv i (k + 1) = y := ⟨_, rfl⟩
                rw [hy] at o0 cb
                have w0 : IntKind.i64.wrap (y + 1) = y + 1 := IntWalk.i64_in _ (by omega)
                obtain ⟨k1, hk1⟩ : ∃ k1 : Nat, k + 1 = k1 := ⟨_, rfl⟩
                have wk : IntKind.i64.wrap ((k : Int) + 1) = (k1 : Int) := by rw [IntWalk.i64_in _ (by omega)]; omega
                have g1 : (k1 : Int) < 7 := by omega
                have g2 : 0 ≤ (k1 : Int) := by omega
                have g3 : (k : Int) < (n : Int) := by omega
                have g4 : 0 ≤ (k : Int) := by omega
                rw [hk1] at o0 f0
                have FIN := Lib.hid (show Blk (wr.setCell ⟨ob, k1, none⟩ (.int .i64 (y + 1))) 36 ob (seven (fun j => cntO S sv i j + (if ((j : Int) - 1) ∈ pre ++ [(k : Int)] then 1 else 0))) by
                  have h := O7.out.setH k1 (.int .i64 (y + 1))
                  rw [seven_set _ (by omega)] at h
                  have e : (fun j : Nat => if j = k1 then y + 1 else cntO S sv i j + (if ((j : Int) - 1) ∈ pre then 1 else 0)) = (fun j => cntO S sv i j + (if ((j : Int) - 1) ∈ pre ++ [(k : Int)] then 1 else 0)) := by
                    funext j
                    by_cases ej : j = k1
                    · subst ej
                      rw [if_pos rfl, if_pos (by rw [show ((j : Nat) : Int) - 1 = (k : Int) by omega]; simp), ← hy, hk1]
                    · rw [if_neg ej]
                      have : ((j : Int) - 1 ∈ pre ++ [(k : Int)]) ↔ ((j : Int) - 1 ∈ pre) := by
                        simp only [List.mem_append, List.mem_singleton]
                        exact ⟨fun q => q.elim (fun x => x) (fun x => by omega), .inl⟩
                      simp only [this]
                  rw [e] at h
                  exact h)
                have M8 := Lib.hid (M7.out.wrote (G' := fun k => k = ob) (((Keeps.refl (fun k => k = ob) wr).set (.inl rfl) k1 (.int .i64 (y + 1)))) (fun k q => .inl q) (fun k q => by have := M7.out.lies k q; simpa using this))
                obtain ⟨bs, os, rfl, hsat⟩ := (RS.out.below M8.out.below).at pv
                have s0 := hsat.c0
                have P := Lib.hid (And.intro p1 (And.intro p2 p3))
                have HP' := Lib.hid hp'
                clear cb np np' hp hp' hc hsat pv hk hy hk1 p1 p2 p3
                go_wp2
                go_roundw
                case rel => exact ⟨pre ++ [(k : Int)], x.par, rfl, ⟨P.out.1, P.out.2.2⟩, HP'.out, M8.out, FIN.out⟩
                case measure => have := P.out; simp [intOf]; omega
          · have IE := Lib.hid (show i = m by omega)
            have IM := Lib.hid (show i ≤ 20 by omega)
            clear go
            go_wp2
            all_goals first | (exfalso; have := IE.out; omega) | skip
            all_goals
              go_loopw [14] (fun u wr => ∃ c : Int, u = .int .i64 c ∧ -1 ≤ c ∧ c ≤ (n : Int) ∧ Mine13 w3 (fun k => k = ob) g S 1 1 (joinsO sv i) wr ∧ Blk wr 36 ob (seven (cntO S sv i))) (fun u _ => ((n : Int) - intOf u).toNat)
              case atStart => exact ⟨-1, rfl, by omega, by omega, M.out, O.out⟩
              case round =>
                obtain ⟨c, rfl, c0, c1, hM9, hO9⟩ := hrel
                have M9 := Lib.hid hM9
                have O9 := Lib.hid hO9
                clear hM9 hO9
                by_cases hcn : c < (n : Int)
                · have t9 : decide (c < (n : Int)) = true := decide_eq_true hcn
                  obtain ⟨k, hk⟩ : ∃ k : Nat, (c + 1).toNat = k := ⟨_, rfl⟩
                  have n6 := N6.out
                  have im := IM.out
                  have wc : IntKind.i64.wrap (c + 1) = (k : Int) := by rw [IntWalk.i64_in _ (by omega)]; omega
                  have g1 : (k : Int) < 7 := by omega
                  have g2 : 0 ≤ (k : Int) := by omega
                  have wk : IntKind.i64.wrap ((k : Int)) = (k : Int) := IntWalk.i64_in _ (by omega)
                  have o0 := O9.out.cell k
                  rw [seven_at _ (by omega)] at o0
                  have cb := cntO_bd S sv i k
                  have CE := Lib.hid (show cntO S sv i k = ((listAt S c (joinsO sv i)).length : Int) by unfold cntO; rw [show ((k : Nat) : Int) - 1 = c by omega])
                  obtain ⟨y, hy⟩ : ∃ y, cntO S sv i k = y := ⟨_, rfl⟩
                  rw [hy] at o0 cb CE
                  have uy : IntKind.u64.wrap y = y := IntWalk.u64_in _ (by omega)
                  have YB := Lib.hid (show 0 ≤ y ∧ y < 4294967296 by omega)
                  have O0 := Lib.hid o0
                  obtain ⟨⟨N', D'⟩, hheld⟩ : ∃ r, heldQ S c (joinsO sv i) = r := ⟨_, rfl⟩
                  have SUM := Lib.hid (show N' * 64 = y * D' ∧ 0 < D' by
                    have hb : hasB S c = true := has_is.mpr (by have := LS.out; omega)
                    unfold heldQ at hheld
                    rw [if_pos hb] at hheld
                    have := sum_64 (listAt S c (joinsO sv i)) joinsO_all
                    rw [hheld, ← CE.out] at this
                    exact this)
                  have HH := Lib.hid hheld
                  have LJ := Lib.hid (joinsO_len sv i)
                  have KEPT := Lib.hid (show ∀ w' : World, Below wr.heap.size wr w' → w'.cell? ⟨ob, k, none⟩ = some (.int .i64 y) from fun w' h => hb_cell h O0.out)
                  have BB := Lib.hid (show Below wr.heap.size wr wr.drew from (Below.refl wr.heap.size wr).drew)
                  clear hk hy hheld cb o0
                  go_upto_region 26 with fail
                  go_region_held3 (fun w' => w'.cell? ⟨ob, k, none⟩ = some (.int .i64 y))
                    (first | with_reducible exact KEPT.out _ BB.out)
                    (first
                      | (go_at_call 11; (with_reducible refine (m13held c (M9.out.next BB.out) (by rw [LJ.out]; exact IM.out) N' D' HH.out).mono ?_); rintro e wa ⟨va, na, da, rfl, hra, hlo, he, hba⟩; have VA := Lib.hid hra; have EA := Lib.hid he; have BB := Lib.hid (below_next BB.out hba); clear hra hlo he hba)
                      | (go_at_call 8; (with_reducible refine (one13_any y 64 _ YB.out.1 YB.out.2 (by omega) (by omega)).mono ?_); rintro e wb ⟨vb, rfl, hrb, hbb⟩; have VB := Lib.hid hrb; have VA := Lib.hid (VA.out.below hbb); have BB := Lib.hid (below_next BB.out hbb); clear hrb hbb)
                      | (go_at_call 10; (with_reducible refine (rcmp_any _ _ _ _ _ _ _ _ _ _ _ VA.out VB.out (by omega)).mono ?_); rintro e wd ⟨rfl, hbd⟩; have BB := Lib.hid (below_next BB.out hbd); rw [cmp_64 SUM.out.2 EA.out SUM.out.1]; clear hbd))
                  all_goals
                    have wi : IntKind.i64.wrap (c + 1) = c + 1 := IntWalk.i64_in _ (by have := N6.out; omega)
                    go_wp2
                    go_roundw
                    case rel => exact ⟨c + 1, by go_num, by omega, by omega, M9.out.next BB.out, O9.out.below BB.out⟩
                    case measure => simp [intOf]; omega
                · have t9 : decide (c < (n : Int)) = false := decide_eq_false hcn
                  go_wp2
                  go_ret
                  exact ⟨rfl, below_next B.out M9.out.below⟩
end Go.Proofs.Ytbonilmlfelmpaa

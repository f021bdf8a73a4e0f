/-
  The walk of the law SeatsTurn.
-/
import Derived.Test.YtgkmhnkndjfcaaaUe6
namespace Go.Proofs.Ytgkmhnkndjfcaaa
open Go.RowKit

theorem tmod17 (x r : Int) (h : 0 < r) : 0 ≤ (x.tmod r + r).tmod r ∧ (x.tmod r + r).tmod r < r ∧ -r < x.tmod r ∧ x.tmod r < r := by
  have c1 := Int.lt_tmod_of_pos x h
  have c2 := Int.tmod_lt_of_pos x h
  exact ⟨Int.tmod_nonneg r (by omega), Int.tmod_lt_of_pos _ h, by omega, c2⟩
theorem ups_at {n i : Nat} (h : i < n) : (ups n)[i]? = some (i : Int) := by
  unfold ups
  rw [List.getElem?_map, List.getElem?_range h]
  rfl
theorem take_drop {l : List Int} {i : Nat} {x : Int} (h : l[i]? = some x) : takeV (l.drop i) = (x, 0, l.drop (i + 1)) := by
  have hi := lt_of_get h
  rw [List.drop_eq_getElem_cons hi]
  have : l[i] = x := by rw [List.getElem?_eq_getElem hi] at h; simpa using h
  rw [this]
  rfl

set_option maxRecDepth 20000 in
set_option maxHeartbeats 8000000 in
theorem sturn_walk {Hp : World → Nat → (Nat → Prop) → Nat → List Int → Prop} (ok : SeatsOk Hp) (m : Int) (a : Option Addr) (len cap : Nat) (zs : List Int) (w : World) (hr : Row .i64 w a len cap zs) :
    Calls Try.prog 5 #[.int .i64 m, .slice a len cap] w fun e w' => e = .returned (.bool true) ∧ Below w.heap.size w w' := by
  have HR := Lib.hid hr
  have ⟨k1, k2⟩ := hr.cap_le
  clear hr
  have ⟨n0, n1⟩ := and_low17 m 63 (by omega) (by omega)
  obtain ⟨v0, hv0⟩ : ∃ v, bits .and .i64 m 63 = v := ⟨_, rfl⟩
  rw [hv0] at n0 n1
  obtain ⟨n, hn⟩ := Int.eq_ofNat_of_zero_le (show 0 ≤ 1 + v0 by omega)
  have wn : IntKind.i64.wrap (1 + v0) = (n : Int) := by rw [hn]; exact IntWalk.i64_in _ (by omega)
  have m1 : 1 ≤ n := by omega
  have m64 : n ≤ 64 := by omega
  have HV := Lib.hid hn
  clear hn
  go_enter Try.func5, Try.ntmps5
  go_wp2_with fail
  refine (awake17_any ok w).mono ?_
  rintro e w0 ⟨rfl, hb⟩
  have B0 := Lib.hid hb
  clear hb
  go_wp2_with fail
  try rw [hv0]
  try rw [wn]
  refine (m17new ok B0.out n m1 m64).mono ?_
  rintro e w1 ⟨g, rfl, hm⟩
  have M := Lib.hid hm
  clear hm
  go_wp2
  clear hv0 wn
  go_loopw [8] (fun u wr => ∃ i : Nat, u = .int .i64 i ∧ i ≤ n ∧ Mine17 Hp w G0 g n ((ups n).drop i) wr) (fun u _ => n - (intOf u).toNat)
  case atStart => exact ⟨0, rfl, by omega, M.out⟩
  case round =>
    obtain ⟨i, rfl, i1, hm⟩ := hrel
    have M := Lib.hid hm
    clear hm
    by_cases go : i < n
    · have b1 : decide ((i : Int) < (n : Int)) = true := by simp; omega
      have b1' : decide (i < n) = true := by simp; omega
      have TV := Lib.hid (take_drop (ups_at go))
      go_wp2_with fail
      refine (m17take ok M.out).mono ?_
      rintro e w3 ⟨rfl, hm, -⟩
      rw [TV.out] at hm ⊢
      have M3 := Lib.hid (show Mine17 Hp w G0 g n ((ups n).drop (i + 1)) w3 from hm)
      clear hm
      go_wp2
      go_roundw
      case rel => exact ⟨i + 1, by go_num, by omega, M3.out⟩
      case measure => simp [intOf]; omega
    · have b1 : decide ((i : Int) < (n : Int)) = false := by simp; omega
      have b1' : decide (i < n) = false := by simp; omega
      have M2 := Lib.hid (show Mine17 Hp w (fun k => (Value.slice none 0 0).ownBlock = some k) g n [] wr by
        have h1 := M.out
        rw [List.drop_eq_nil_of_le (by rw [ups_len]; omega)] at h1
        exact h1.wrote ok (Keeps.refl _ _) (fun k e => by cases e) (fun k e => by cases e))
      clear M
      go_wp2
      obtain ⟨wq, hwq⟩ : ∃ wq, wr = wq := ⟨_, rfl⟩
      rw [hwq] at M2 ⊢
      clear hwq
      go_loopw [11, 12] (fun v u wr => ∃ (j : Nat) (fr : List Int), u = .int .i64 j ∧ j ≤ len ∧ wr.ownsRow w.heap.size 3 1 v fr.length (fr.map (Value.int .i64)) ∧ Mine17 Hp w (fun k => v.ownBlock = some k) g n fr wr) (fun _ u _ => len - (intOf u).toNat)
      case atStart => exact ⟨0, [], rfl, by omega, World.ownsRow_nil _ _ _ _, M2.out⟩
      case round =>
        obtain ⟨j, fr, rfl, j1, ho, hm⟩ := hrel
        have O := Lib.hid ho
        have M := Lib.hid hm
        have FL := (hm.good ok).len
        clear ho hm
        by_cases go2 : j < len
        · have b2 : decide ((j : Int) < (len : Int)) = true := by simp; omega
          have b2' : decide (j < len) = true := by simp; omega
          obtain ⟨ba, oa, rfl, hcell⟩ := HR.out.cell go2
          obtain ⟨z, hz⟩ : ∃ z, zs.getD j 0 = z := ⟨_, rfl⟩
          rw [hz] at hcell
          have y := cell_on M.out.below hcell
          have i3 : (j : Int) < (len : Int) := by omega
          have i0 : 0 ≤ (j : Int) := by omega
          obtain ⟨t0, t1, t2, t3⟩ := tmod17 z n (by omega)
          obtain ⟨A, hA⟩ : ∃ A, z.tmod (n : Int) = A := ⟨_, rfl⟩
          rw [hA] at t0 t1 t2 t3
          obtain ⟨K, hK⟩ : ∃ K, (A + (n : Int)).tmod (n : Int) = K := ⟨_, rfl⟩
          have hK2 : (A + (n : Int)) % (n : Int) = K := by rw [← hK]; exact (Int.tmod_eq_emod_of_nonneg (by omega)).symm
          rw [hK] at t0 t1
          obtain ⟨k, rfl⟩ := Int.eq_ofNat_of_zero_le t0
          have kn : k < n := by omega
          have nz : ¬ (n : Int) = 0 := by omega
          have nz' : ¬ n = 0 := by omega
          have wA : IntKind.i64.wrap (A + (n : Int)) = A + (n : Int) := IntWalk.i64_in _ (by omega)
          clear hcell hz
          by_cases kf : (k : Int) ∈ fr
          · have GV := Lib.hid (show giveV n fr k = (12, fr) by unfold giveV; rw [if_pos (by omega), if_pos kf])
            clear kf
            go_wp2_with fail
            refine (m17give ok k M.out).mono ?_
            rintro e w5 ⟨rfl, hm, hh⟩
            rw [GV.out] at hm ⊢
            have M5 := Lib.hid hm
            have O5 := Lib.hid (hh.owns O.out (fun _ e => e))
            clear hm hh
            go_wp2
            go_roundw
            case rel => exact ⟨j + 1, fr, by go_num, by omega, O5.out, M5.out⟩
            case measure => simp [intOf]; omega
          · have GV := Lib.hid (show giveV n fr k = (0, fr ++ [(k : Int)]) by unfold giveV; rw [if_pos (by omega), if_neg kf])
            clear kf
            go_wp2_with fail
            refine (m17give ok k M.out).mono ?_
            rintro e w5 ⟨rfl, hm, hh⟩
            rw [GV.out] at hm ⊢
            have M5 := Lib.hid hm
            have O5 := Lib.hid (hh.owns O.out (fun _ e => e))
            have WS := M5.out.below.size
            clear hm hh
            go_wp2_with (at_builtin; refine app_oint rfl _ _ rfl w.heap.size u11 fr rfl (owns_below O5.out (wbox w5 (.cells #[.int .i64 k] 3))) w5.heap.size k rfl (heap_alloc_new w5 _) (Nat.le_trans WS (wbox w5 (.cells #[.int .i64 (k : Int)] 3)).size) (by omega) ?_; intro v2 w6 h1 h2 h3; have O6 := Lib.hid h1; have M6 := Lib.hid (show Mine17 Hp w (fun q => v2.ownBlock = some q) g n (fr ++ [(k : Int)]) w6 from M5.out.wrote ok (((Keeps.refl (fun q => u11.ownBlock = some q) w5).alloc _).grown h2 (fun q e => .inl e)) (fun q e => by obtain ⟨gq, e1, e2⟩ := h3; rw [e1] at e; cases e; rcases e2 with p | p; exact .inl p; exact .inr (by rw [p]; exact (wbox w5 _).size)) (fun q e => (h1.lt q e).2)); clear h1 h2 h3)
            go_roundw
            case rel => exact ⟨j + 1, _, by go_num, by omega, O6.out, M6.out⟩
            case measure => simp [intOf]; omega
        · have b2 : decide ((j : Int) < (len : Int)) = false := by simp; omega
          have b2' : decide (j < len) = false := by simp; omega
          obtain ⟨av, cv, hv, hrow, _⟩ := row_of_owns O.out
          have RW := Lib.hid hrow
          have OB := Lib.hid (fun k e => (O.out.lt k e).2)
          obtain ⟨fl, hfl⟩ : ∃ fl, fr.length = fl := ⟨_, rfl⟩
          have HF := Lib.hid hfl
          have f64 : fl ≤ 64 := by omega
          subst hv
          rw [hfl] at RW
          clear hrow O
          go_wp2
          rw [hfl]
          clear hfl
          obtain ⟨wq2, hwq⟩ : ∃ wq, wr = wq := ⟨_, rfl⟩
          rw [hwq] at M RW OB ⊢
          clear hwq
          go_loopw [14] (fun u wr => ∃ i : Nat, u = .int .i64 i ∧ i ≤ fl ∧ Mine17 Hp w (fun k => (Value.slice av fl cv).ownBlock = some k) g n (fr.drop i) wr ∧ Holds (fun k => (Value.slice av fl cv).ownBlock = some k) wq2 wr) (fun u _ => fl - (intOf u).toNat)
          case atStart => exact ⟨0, rfl, by omega, by rw [← HF.out]; exact M.out, ⟨Nat.le_refl _, fun _ _ => rfl⟩⟩
          case round =>
            obtain ⟨i', rfl, i1', hm, hh⟩ := hrel
            have M := Lib.hid hm
            have HH := Lib.hid hh
            clear hm hh
            by_cases go3 : i' < fl
            · have b3 : decide ((i' : Int) < (fl : Int)) = true := by simp; omega
              have b3' : decide (i' < fl) = true := by simp; omega
              obtain ⟨x, hx, -⟩ := get_of (l := fr) (i := i') (by rw [HF.out]; exact go3)
              have TV := Lib.hid (take_drop hx)
              obtain ⟨bb, ob, rfl, hcell⟩ := RW.out.cell go3
              have hxd : fr.getD i' 0 = x := by rw [List.getD_eq_getElem?_getD, hx]; rfl
              rw [hxd] at hcell
              have i3 : (i' : Int) < (fl : Int) := by omega
              have i0 : 0 ≤ (i' : Int) := by omega
              have HC := Lib.hid hcell
              clear hx hxd hcell
              go_wp2_with fail
              refine (m17take ok M.out).mono ?_
              rintro e w3 ⟨rfl, hm, hh⟩
              rw [TV.out] at hm ⊢
              have M3 := Lib.hid (show Mine17 Hp w (fun k => (Value.slice (some ⟨bb, ob, none⟩) fl cv).ownBlock = some k) g n (fr.drop (i' + 1)) w3 from hm)
              have H3 := Lib.hid (show Holds (fun k => (Value.slice (some ⟨bb, ob, none⟩) fl cv).ownBlock = some k) wq2 w3 from ⟨Nat.le_trans HH.out.size hh.size, fun k e => (hh.block k e).trans (HH.out.block k e)⟩)
              have y := (World.cell?_of_block (w := wq2) (a := ⟨bb, ob + i', none⟩) (H3.out.block bb rfl)).trans HC.out
              clear hm hh
              dsimp only
              go_wp2
              go_roundw
              case rel => exact ⟨i' + 1, by go_num, by omega, M3.out, H3.out⟩
              case measure => simp [intOf]; omega
            · have b3 : decide ((i' : Int) < (fl : Int)) = false := by simp; omega
              have b3' : decide (i' < fl) = false := by simp; omega
              have M2 := Lib.hid (show Mine17 Hp w (fun k => (Value.slice av fl cv).ownBlock = some k) g n [] wr by
                have h1 := M.out
                rw [List.drop_eq_nil_of_le (by rw [HF.out]; omega)] at h1
                exact h1)
              go_wp2_with fail
              refine (m17take ok M2.out).mono ?_
              rintro e w3 ⟨rfl, hm, -⟩
              have M3 := Lib.hid (show Mine17 Hp w (fun k => (Value.slice av fl cv).ownBlock = some k) g n [] w3 from hm)
              clear hm
              simp only [takeV]
              go_wp2_with fail
              refine (m17left ok M3.out).mono ?_
              rintro e w4 ⟨rfl, hm, -⟩
              have BF := Lib.hid hm.below
              clear hm
              go_wp2
              go_ret
              exact ⟨rfl, BF.out⟩
end Go.Proofs.Ytgkmhnkndjfcaaa

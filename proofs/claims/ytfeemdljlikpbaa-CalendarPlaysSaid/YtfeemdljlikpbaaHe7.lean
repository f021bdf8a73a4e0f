/-
  Package heap as landed: sink: contract.
-/
import Derived.Test.YtfeemdljlikpbaaHe6
namespace Go.Proofs.Ytfeemdljlikpbaa
open Go.RowKit Go.Maps
variable {L : FuncId} {TT : TypeId} {ltb : Ev → Ev → Bool}

theorem least_oneE [Nonempty (OrdE ltb)] {xs : List Te} {i : Nat} (h : ∀ u v, xs[2 * i + 2]? = some u → xs[2 * i + 1]? = some v → ¬ AheadE ltb u v) : LeastE ltb xs i (2 * i + 1) := ⟨.inl rfl, fun o ho u v hu hv => by
  rcases ho with e | e
  · subst e; rw [hu] at hv; cases hv; exact ahead_irrE _
  · subst e; exact h u v hu hv⟩
theorem least_twoE [Nonempty (OrdE ltb)] {xs : List Te} {i : Nat} {u v : Te} (hu : xs[2 * i + 2]? = some u) (hv : xs[2 * i + 1]? = some v) (h : AheadE ltb u v) : LeastE ltb xs i (2 * i + 2) := ⟨.inr rfl, fun o ho s t hs ht => by
  rw [hu] at ht; cases ht
  rcases ho with e | e
  · subst e; rw [hv] at hs; cases hs; exact ahead_asymE h
  · subst e; rw [hu] at hs; cases hs; exact ahead_irrE _⟩
set_option maxRecDepth 20000 in
set_option maxHeartbeats 4000000 in
theorem sink_anyE [Nonempty (OrdE ltb)] (ok : LessE L ltb) (g b n cap m i : Nat) (xs : List Te) (w : World) (hn : xs.length = n) (h : HSE L TT w g (.slice (some ⟨b, 0, none⟩) n cap) m xs) (hi : i < n) (hm : DnE ltb xs i) :
    Calls Try.prog 39 #[.pointer (some ⟨g, 0, none⟩), .int .i64 i] w (LeftE L TT (HqE ltb) g b n cap m xs w) := by
  have OK := Lib.hid ok
  have H := Lib.hid h
  have LN := Lib.hid hn
  have MD := Lib.hid hm
  have nl := h.len
  rw [hn] at nl
  have i0 : 0 ≤ (i : Int) := by omega
  have i1 : (i : Int) ≤ 1000 := by omega
  clear h hn hm ok
  go_enter Try.func39, Try.ntmps39
  go_wp2_with fail
  go_step3
  go_wp2
  go_step3
  go_wp2
  go_loopw [1, 4] (fun u v wr => ∃ (k c : Nat) (ys : List Te), u = .int .i64 k ∧ v = .int .i64 c ∧ k < n ∧ c = 2 * k + 1 ∧ ys.Perm xs ∧ DnE ltb ys k ∧ TurnsE L TT g b n cap m ys w wr) (fun u _ _ => n - (intOf u).toNat)
  case atStart => exact ⟨i, 2 * i + 1, xs, rfl, by go_num, hi, rfl, List.Perm.refl _, MD.out, H.out, Keeps.refl _ _⟩
  case round =>
    obtain ⟨k, c, ys, rfl, rfl, kn, hc, hp, hd, ht⟩ := hrel
    have PM := Lib.hid hp
    have T := Lib.hid ht
    have DD := Lib.hid hd
    have CC := Lib.hid hc
    have YN := Lib.hid (show ys.length = n by rw [hp.length_eq]; exact LN.out)
    have r1 : _ = some _ := T.out.1.blk.cell 1
    simp [HVE] at r1
    clear hp hd ht
    by_cases cn : c < n
    · have t1 : decide ((c : Int) < (n : Int)) = true := decide_eq_true (by omega)
      have t2 : decide (c < n) = true := decide_eq_true cn
      have c0 : 0 ≤ (c : Int) := by omega
      have c1 : (c : Int) ≤ 1000 := by omega
      have ck : k < c := by omega
      obtain ⟨x, hx⟩ := getXE YN.out kn
      obtain ⟨y, hy⟩ := getXE YN.out cn
      have X := Lib.hid hx
      have Y := Lib.hid hy
      clear hx hy hc
      obtain ⟨d, hd⟩ : ∃ d, d = c + 1 := ⟨_, rfl⟩
      have d1 : (c : Int) + 1 = (d : Int) := by omega
      have DE := Lib.hid hd
      clear hd
      by_cases dn : d < n
      · have t3 : decide ((d : Int) < (n : Int)) = true := decide_eq_true (by omega)
        have t4 : decide (d < n) = true := decide_eq_true dn
        obtain ⟨z, hz⟩ := getXE YN.out dn
        have Z := Lib.hid hz
        clear hz
        obtain ⟨f, hf⟩ : ∃ f, decide (AheadE ltb z y) = f := ⟨_, rfl⟩
        have F := Lib.hid hf
        clear hf
        go_wp2_with fail
        refine (ahead_nE OK.out g b n cap m d c ys z y f _ YN.out T.out.1 Z.out Y.out F.out).mono ?_
        rintro e w2 ⟨rfl, ht2⟩
        have T2 := Lib.hid (show TurnsE L TT g b n cap m ys w w2 from ⟨ht2.1, TurnsE.next T.out.2 ht2⟩)
        clear ht2 r1
        have r1 : _ = some _ := T2.out.1.blk.cell 1
        simp [HVE] at r1
        cases f with
        | true =>
          have LE := Lib.hid (show LeastE ltb ys k d by
            have e1 := CC.out
            have e2 := DE.out
            have e3 : d = 2 * k + 2 := by omega
            rw [e3]
            exact least_twoE (by rw [← e3]; exact Z.out) (by rw [← e1]; exact Y.out) (of_decide_eq_true F.out))
          obtain ⟨q, hq⟩ : ∃ q, decide (AheadE ltb z x) = q := ⟨_, rfl⟩
          have Q := Lib.hid hq
          clear hq
          go_wp2_with fail
          refine (ahead_nE OK.out g b n cap m d k ys z x q _ YN.out T2.out.1 Z.out X.out Q.out).mono ?_
          rintro e w3 ⟨rfl, ht3⟩
          have T3 := Lib.hid (show TurnsE L TT g b n cap m ys w w3 from ⟨ht3.1, TurnsE.next T2.out.2 ht3⟩)
          clear ht3 r1
          have r1 : _ = some _ := T3.out.1.blk.cell 1
          simp [HVE] at r1
          cases q with
          | true =>
            go_wp2_with fail
            refine (swap_nE g b n cap m k d ys x z _ YN.out T3.out.1 X.out Z.out).mono ?_
            rintro e w4 ⟨rfl, ht4⟩
            have T4 := Lib.hid (show TurnsE L TT g b n cap m (swpE ys k d) w w4 from ⟨ht4.1, TurnsE.next T3.out.2 ht4⟩)
            have PM4 := Lib.hid ((swp_permE X.out Z.out).trans PM.out)
            have DN := Lib.hid (DD.out.step LE.out X.out Z.out (of_decide_eq_true Q.out))
            have b0 : 0 ≤ (d : Int) := by omega
            have b1 : (d : Int) ≤ 1000 := by omega
            clear ht4 r1
            go_wp2
            go_roundw
            case rel => exact ⟨d, 2 * d + 1, _, rfl, by go_num, by omega, rfl, PM4.out, DN.out, T4.out⟩
            case measure => simp [intOf]; omega
          | false =>
            have HQ := Lib.hid (DD.out.done LE.out (by rw [YN.out]; omega) (fun u v hu hv => by
              rw [Z.out] at hu; cases hu
              have e1 := LE.out.1
              rw [show (d - 1) / 2 = k by omega, X.out] at hv; cases hv
              exact of_decide_eq_false Q.out))
            go_wp2
            exact bodyPost_end (v := .tuple #[]) (by simp [results, Try.results39, go_sem]) rfl ⟨rfl, ys, PM.out, HQ.out, T3.out⟩
        | false =>
          have LE := Lib.hid (show LeastE ltb ys k c by
            have e1 := CC.out
            have e2 := DE.out
            have e3 : d = 2 * k + 2 := by omega
            rw [e1]
            exact least_oneE (fun u v hu hv => by
              rw [← e3, Z.out] at hu; rw [← e1, Y.out] at hv; cases hu; cases hv
              exact of_decide_eq_false F.out))
          obtain ⟨q, hq⟩ : ∃ q, decide (AheadE ltb y x) = q := ⟨_, rfl⟩
          have Q := Lib.hid hq
          clear hq
          go_wp2_with fail
          refine (ahead_nE OK.out g b n cap m c k ys y x q _ YN.out T2.out.1 Y.out X.out Q.out).mono ?_
          rintro e w3 ⟨rfl, ht3⟩
          have T3 := Lib.hid (show TurnsE L TT g b n cap m ys w w3 from ⟨ht3.1, TurnsE.next T2.out.2 ht3⟩)
          clear ht3 r1
          have r1 : _ = some _ := T3.out.1.blk.cell 1
          simp [HVE] at r1
          cases q with
          | true =>
            go_wp2_with fail
            refine (swap_nE g b n cap m k c ys x y _ YN.out T3.out.1 X.out Y.out).mono ?_
            rintro e w4 ⟨rfl, ht4⟩
            have T4 := Lib.hid (show TurnsE L TT g b n cap m (swpE ys k c) w w4 from ⟨ht4.1, TurnsE.next T3.out.2 ht4⟩)
            have PM4 := Lib.hid ((swp_permE X.out Y.out).trans PM.out)
            have DN := Lib.hid (DD.out.step LE.out X.out Y.out (of_decide_eq_true Q.out))
            have b0 : 0 ≤ (c : Int) := by omega
            have b1 : (c : Int) ≤ 1000 := by omega
            clear ht4 r1
            go_wp2
            go_roundw
            case rel => exact ⟨c, 2 * c + 1, _, rfl, by go_num, by omega, rfl, PM4.out, DN.out, T4.out⟩
            case measure => simp [intOf]; omega
          | false =>
            have HQ := Lib.hid (DD.out.done LE.out (by rw [YN.out]; omega) (fun u v hu hv => by
              rw [Y.out] at hu; cases hu
              have e1 := LE.out.1
              rw [show (c - 1) / 2 = k by omega, X.out] at hv; cases hv
              exact of_decide_eq_false Q.out))
            go_wp2
            exact bodyPost_end (v := .tuple #[]) (by simp [results, Try.results39, go_sem]) rfl ⟨rfl, ys, PM.out, HQ.out, T3.out⟩
      · have t3 : decide ((d : Int) < (n : Int)) = false := decide_eq_false (by omega)
        have t4 : decide (d < n) = false := decide_eq_false dn
        have LE := Lib.hid (show LeastE ltb ys k c by
          have e1 := CC.out
          have e2 := DE.out
          rw [e1]
          exact least_oneE (fun u v hu hv => by
            have := lt_atE hu
            rw [YN.out] at this
            omega))
        obtain ⟨q, hq⟩ : ∃ q, decide (AheadE ltb y x) = q := ⟨_, rfl⟩
        have Q := Lib.hid hq
        clear hq
        go_wp2_with fail
        refine (ahead_nE OK.out g b n cap m c k ys y x q _ YN.out T.out.1 Y.out X.out Q.out).mono ?_
        rintro e w3 ⟨rfl, ht3⟩
        have T3 := Lib.hid (show TurnsE L TT g b n cap m ys w w3 from ⟨ht3.1, TurnsE.next T.out.2 ht3⟩)
        clear ht3 r1
        have r1 : _ = some _ := T3.out.1.blk.cell 1
        simp [HVE] at r1
        cases q with
        | true =>
          go_wp2_with fail
          refine (swap_nE g b n cap m k c ys x y _ YN.out T3.out.1 X.out Y.out).mono ?_
          rintro e w4 ⟨rfl, ht4⟩
          have T4 := Lib.hid (show TurnsE L TT g b n cap m (swpE ys k c) w w4 from ⟨ht4.1, TurnsE.next T3.out.2 ht4⟩)
          have PM4 := Lib.hid ((swp_permE X.out Y.out).trans PM.out)
          have DN := Lib.hid (DD.out.step LE.out X.out Y.out (of_decide_eq_true Q.out))
          have b0 : 0 ≤ (c : Int) := by omega
          have b1 : (c : Int) ≤ 1000 := by omega
          clear ht4 r1
          go_wp2
          go_roundw
          case rel => exact ⟨c, 2 * c + 1, _, rfl, by go_num, by omega, rfl, PM4.out, DN.out, T4.out⟩
          case measure => simp [intOf]; omega
        | false =>
          have HQ := Lib.hid (DD.out.done LE.out (by rw [YN.out]; omega) (fun u v hu hv => by
            rw [Y.out] at hu; cases hu
            have e1 := LE.out.1
            rw [show (c - 1) / 2 = k by omega, X.out] at hv; cases hv
            exact of_decide_eq_false Q.out))
          go_wp2
          exact bodyPost_end (v := .tuple #[]) (by simp [results, Try.results39, go_sem]) rfl ⟨rfl, ys, PM.out, HQ.out, T3.out⟩
    · have t1 : decide ((c : Int) < (n : Int)) = false := decide_eq_false (by omega)
      have t2 : decide (c < n) = false := decide_eq_false cn
      have HQ := Lib.hid (DD.out.leaf (by rw [YN.out]; omega))
      clear hc
      go_wp2
      exact bodyPost_end (v := .tuple #[]) (by simp [results, Try.results39, go_sem]) rfl ⟨rfl, ys, PM.out, HQ.out, T.out⟩
end Go.Proofs.Ytfeemdljlikpbaa

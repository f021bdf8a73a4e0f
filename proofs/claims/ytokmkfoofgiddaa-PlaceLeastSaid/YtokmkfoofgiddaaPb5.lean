/-
  The document's Best (regattaref15): contract.
-/
import Derived.Test.YtokmkfoofgiddaaPb3
namespace Go.Proofs.Ytokmkfoofgiddaa
open Go.RowKit

/-- append of a whole row of numbers to what is owned -/
theorem app_row {w : World} {ops : Array Oper} {rest : List Oper} {o : Oper} {act : Act} {Q : Exit → Act → World → Prop} (hgd : o.guard = none) (s x : Operand)
    (ho : o.op = .call { callee := .builtin .append, args := #[s, x], argTypes := #[23, 23] }) (base : Nat)
    (v : Value) (ns : List Int) (hs : act.eval s = v) (hown : w.ownsRow base 3 1 v ns.length (ns.map (Value.int .i64))) (A : Option Addr) (m c : Nat) (zs : List Int) (hx : act.eval x = .slice A m c)
    (hr : Row .i64 w A m c zs) (hb : base ≤ w.heap.size) (hsm : ns.length + m ≤ 100000)
    (h : ∀ v' w', w'.ownsRow base 3 1 v' (ns ++ zs).length ((ns ++ zs).map (Value.int .i64)) → w.grownBy w' v.ownBlock → wpList Try.prog ops Q rest (act.put o.dst v') w') : wpList Try.prog ops Q (o :: rest) act w := by
  obtain ⟨i0, hi, hz0, hz1, hz2⟩ := info_parts Try.infoI
  have hl := hr.len
  rcases A with _ | ad
  · obtain ⟨hm, hc, hps⟩ := hr.none_cap
    subst hc hm hps
    refine wpList_append_own_none hgd s x _ ho base _ i0 1 Try.underlying23 hi v _ _ hs hown hx ?_
    exact h v w (by rw [List.append_nil]; exact hown) (World.grownBy.refl w _)
  · refine wpList_append_own _ hgd s x _ ho base _ i0 _ 1 8 Try.underlying23 hi hz0 hz1 hz2 rfl (by decide) v _ _ hs hown ad m c (zs.map (Value.int .i64)) hx (by rw [List.length_map, hl]; omega) hr.news (ints_one _ _) (by unfold maxLen; omega) (by omega) hb ?_
    intro v2 w2 ho2 hg2 _
    refine h v2 w2 ?_ hg2
    rw [List.length_append, List.map_append, hl]
    exact ho2
/-- one of those from lo on, ahead of k, has that pin -/
def PinP (l : List Rn) (lo k : Nat) (c : Int) : Prop := ∃ (j : Nat) (r : Rn), lo ≤ j ∧ j < k ∧ l[j]? = some r ∧ r.pin = c
open Classical in
noncomputable def pinB (l : List Rn) (lo k : Nat) (c : Int) : Bool := decide (PinP l lo k c)
theorem pin_zero (l : List Rn) {lo k : Nat} (h : k ≤ lo) (c : Int) : pinB l lo k c = false := by
  unfold pinB
  simp only [decide_eq_false_iff_not]
  rintro ⟨j, r, h1, h2, _⟩
  omega
theorem pin_next {l : List Rn} {lo k : Nat} {c : Int} {r : Rn} (h : l[k]? = some r) (hl : lo ≤ k) : pinB l lo (k + 1) c = (pinB l lo k c || (r.pin == c)) := by
  unfold pinB
  rw [Bool.eq_iff_iff]
  simp only [decide_eq_true_eq, Bool.or_eq_true, beq_iff_eq]
  constructor
  · rintro ⟨j, x, h1, h2, h3, h4⟩
    by_cases q : j = k
    · subst q
      rw [h] at h3
      cases h3
      exact .inr h4
    · exact .inl ⟨j, x, h1, by omega, h3, h4⟩
  · rintro (⟨j, x, h1, h2, h3, h4⟩ | q)
    · exact ⟨j, x, h1, by omega, h3, h4⟩
    · exact ⟨k, r, hl, by omega, h, q⟩
theorem ok_iff {l : List Rn} {cores : List Int} {c : Int} {r : Rn} (h : l[cores.length]? = some r) : OkR l cores c ↔ inB cores c = false ∧ pinB l (cores.length + 1) l.length c = false ∧ (0 ≤ r.pin → r.pin = c) := by
  unfold OkR inB pinB
  simp only [decide_eq_false_iff_not]
  constructor
  · rintro ⟨h1, h2, h3⟩
    refine ⟨h1, ?_, h3 r h⟩
    rintro ⟨j, x, q1, q2, q3, q4⟩
    exact h2 j x (by omega) q3 q4
  · rintro ⟨h1, h2, h3⟩
    refine ⟨h1, fun j x q1 q2 q3 => h2 ⟨j, x, by omega, lt_of_get q2, q2, q3⟩, fun x hx => ?_⟩
    rw [h] at hx
    cases hx
    exact h3
/-- what one more core gives -/
theorem best_yes {l : List Rn} {cores : List Int} {v : Int → Int} {c : Nat} (h : OkR l cores c) (h2 : v c < bestC l cores v c) : bestC l cores v (c + 1) = v c := by rw [bestC, if_pos ⟨h, h2⟩]
theorem best_no {l : List Rn} {cores : List Int} {v : Int → Int} {c : Nat} (h : ¬ (OkR l cores c ∧ v c < bestC l cores v c)) : bestC l cores v (c + 1) = bestC l cores v c := by rw [bestC, if_neg h]

set_option maxRecDepth 20000 in
set_option maxHeartbeats 4000000 in
theorem r15best_any (a : Option Addr) (len cap : Nat) (l : List Rn) (n : Nat) (n1 : n ≤ 1024) (l1 : len ≤ 1000) : ∀ (k : Nat) (cores : List Int) (b : Option Addr) (lb cb : Nat) (w : World), RowR w a len cap l → Row .i64 w b lb cb cores → lb + k = len →
    Calls Try.prog 16 #[.slice a len cap, .int .i64 n, .slice b lb cb] w fun e w' => e = .returned (.int .i64 (bestV l n k cores)) ∧ Below w.heap.size w w' := by
  intro k
  induction k with
  | zero =>
    intro cores b lb cb w h g hl
    have H := Lib.hid h
    have G := Lib.hid g
    clear h g
    obtain rfl : lb = len := by omega
    go_enter Try.func16, Try.ntmps16
    go_wp2_with fail
    refine (r15moves_any a lb cap l b lb cb cores w H.out G.out (by omega)).mono ?_
    rintro e w1 ⟨rfl, hb⟩
    have B := Lib.hid hb
    clear hb
    go_wp2
    go_ret
    exact ⟨rfl, B.out⟩
  | succ k ih =>
    intro cores b lb cb w h g hl
    have IH := Lib.hid ih
    have H := Lib.hid h
    have G := Lib.hid g
    have LN := Lib.hid h.len
    have LC := Lib.hid g.len
    clear h g ih
    have b0 : ((lb : Int) == (len : Int)) = false := by simp; omega
    obtain ⟨r, hr, -⟩ := getR (l := l) (i := lb) (by rw [LN.out]; omega)
    have RR := Lib.hid hr
    obtain ⟨v, hv⟩ : ∃ v : Int → Int, (fun c => bestV l n k (cores ++ [c])) = v := ⟨_, rfl⟩
    have HV := Lib.hid (show ∀ c, bestV l n k (cores ++ [c]) = v c from fun c => by rw [← hv])
    have BV := Lib.hid (show bestV l n (k + 1) cores = bestC l cores v n by rw [bestV, hv])
    clear hv
    obtain ⟨ba, oa, rfl, hat⟩ := H.out.at hr
    have XP := Lib.hid (show ∀ W, Below w.heap.size w W → W.cell? ⟨ba, oa + lb * 3 + 1, none⟩ = some (.int .i64 r.pin) from fun W hb => cell_on hb hat.c1)
    have OKI := Lib.hid (fun c : Int => ok_iff (l := l) (cores := cores) (c := c) (r := r) (by rw [LC.out]; exact hr))
    rw [LC.out] at OKI
    obtain ⟨pin, hpin⟩ : ∃ p, r.pin = p := ⟨_, rfl⟩
    rw [hpin] at XP OKI
    clear hr hat hpin RR
    have j0 : 0 ≤ (lb : Int) := by omega
    have j1 : (lb : Int) < (len : Int) := by omega
    go_enter Try.func16, Try.ntmps16
    go_wp2
    go_loopw [8, 9] (fun vb u wr => ∃ c : Nat, u = .int .i64 c ∧ c ≤ n ∧ vb = .int .i64 (bestC l cores v c) ∧ Below w.heap.size w wr) (fun _ u _ => n - (intOf u).toNat)
    case atStart => exact ⟨0, rfl, by omega, rfl, Below.refl _ _⟩
    case round =>
      obtain ⟨c, rfl, c1, rfl, hb⟩ := hrel
      have B := Lib.hid hb
      clear hb
      by_cases go : c < n
      · have b1 : decide ((c : Int) < (n : Int)) = true := by simp; omega
        have b1' : decide (c < n) = true := by simp; omega
        have BY := Lib.hid (fun h1 h2 => best_yes (l := l) (cores := cores) (v := v) (c := c) h1 h2)
        have BN := Lib.hid (fun h1 => best_no (l := l) (cores := cores) (v := v) (c := c) h1)
        have OK := Lib.hid (OKI.out c)
        obtain ⟨bs, hbs⟩ : ∃ q, bestC l cores v c = q := ⟨_, rfl⟩
        rw [hbs] at BY BN ⊢
        clear hbs
        go_wp2_with fail
        refine (r15in_any b lb cb cores c wr (G.out.below B.out)).mono ?_
        rintro e w1 ⟨rfl, rfl⟩
        obtain ⟨st, hst⟩ : ∃ s, inB cores c = s := ⟨_, rfl⟩
        rw [hst] at OK ⊢
        clear hst
        go_wp2
        clear b1 b1' b0
        go_loopw [11, 12] (fun vp u wx => ∃ x : Nat, u = .int .i64 x ∧ lb + 1 ≤ x ∧ x ≤ len ∧ vp = .bool (pinB l (lb + 1) x c) ∧ wr = wx) (fun _ u _ => len - (intOf u).toNat)
        case atStart => exact ⟨lb + 1, by go_num, by omega, by omega, by rw [pin_zero l (Nat.le_refl _)], rfl⟩
        case round =>
          obtain ⟨x, rfl, x1, x2, rfl, rfl⟩ := hrel
          by_cases go2 : x < len
          · have b1 : decide ((x : Int) < (len : Int)) = true := by simp; omega
            have b1' : decide (x < len) = true := by simp; omega
            obtain ⟨y, hy, -⟩ := getR (l := l) (i := x) (by rw [LN.out]; exact go2)
            have PN := Lib.hid (pin_next (c := c) hy x1)
            obtain ⟨b', o', e', hat⟩ := H.out.at hy
            cases e'
            have z := cell_on B.out hat.c1
            have i3 : (x : Int) < (len : Int) := by omega
            have i0 : 0 ≤ (x : Int) := by omega
            obtain ⟨yp, hyp⟩ : ∃ q, y.pin = q := ⟨_, rfl⟩
            rw [hyp] at PN z
            clear hy hat hyp
            obtain ⟨pb, hpb⟩ : ∃ q, pinB l (lb + 1) x c = q := ⟨_, rfl⟩
            rw [hpb] at PN ⊢
            clear hpb
            cases pb with
            | true =>
              go_wp2
              go_roundw
              case rel => exact ⟨x + 1, by go_num, by omega, by omega, by rw [PN.out]; rfl, by trivial⟩
              case measure => simp [intOf]; omega
            | false =>
              obtain ⟨eb, heb⟩ : ∃ q, (yp == (c : Int)) = q := ⟨_, rfl⟩
              have EB := Lib.hid heb
              go_wp2
              go_roundw
              case rel => exact ⟨x + 1, by go_num, by omega, by omega, by rw [PN.out, EB.out]; rfl, by trivial⟩
              case measure => simp [intOf]; omega
          · have b1 : decide ((x : Int) < (len : Int)) = false := by simp; omega
            have b1' : decide (x < len) = false := by simp; omega
            have xe : x = l.length := by rw [LN.out]; omega
            obtain ⟨pb, hpb⟩ : ∃ q, pinB l (lb + 1) l.length c = q := ⟨_, rfl⟩
            rw [hpb] at OK
            have hpx : pinB l (lb + 1) x c = pb := by rw [xe]; exact hpb
            rw [hpx]
            have xe2 : x = len := by omega
            clear hpb xe hpx
            have p1 := XP.out _ B.out
            clear xe2
            have E0 := Lib.hid (World.ownsRow_lit (base := w.heap.size) (e := 3) (size := 1) wr #[] 0 B.out.size (by unfold maxLen; omega) rfl)
            have B0 := Lib.hid (below_next B.out (wbox wr (.cells #[] 3)))
            cases st with
            | true =>
              have NX := Lib.hid (BN.out (fun q => by have h1 := (OK.out.mp q.1).1; cases h1))
              go_wp2
              go_roundw
              case rel => exact ⟨c + 1, by go_num, by omega, by rw [NX.out], B.out⟩
              case measure => simp [intOf]; omega
            | false =>
              cases pb with
              | true =>
                have NX := Lib.hid (BN.out (fun q => by have h1 := (OK.out.mp q.1).2.1; cases h1))
                go_wp2
                go_roundw
                case rel => exact ⟨c + 1, by go_num, by omega, by rw [NX.out], B.out⟩
                case measure => simp [intOf]; omega
              | false =>
                by_cases pc1 : 0 ≤ pin
                · have b3 : decide (0 ≤ pin) = true := by simp; omega
                  by_cases pc2 : pin = c
                  · have b4 : (pin != (c : Int)) = false := by simp [pc2]
                    have PQ := Lib.hid (show 0 ≤ pin → pin = c from fun _ => pc2)
                    clear pc2
                    have YO := Lib.hid (OK.out.mpr ⟨rfl, rfl, PQ.out⟩)
                    go_wp2_with (first
                      | (at_builtin; refine app_row rfl _ _ rfl w.heap.size (.slice (some ⟨wr.heap.size, 0, none⟩) 0 0) [] rfl E0.out b lb cb cores rfl (G.out.below B0.out) B0.out.size (by simp; omega) ?_; intro v2 w2 hown2 hgrow2; have O2 := Lib.hid hown2; have B2 := Lib.hid (B0.out.grown hgrow2 B0.out.size (fun g hg => (E0.out.lt g hg).1)); clear hown2 hgrow2)
                      | (at_builtin; refine app_int rfl _ _ rfl w.heap.size v2 ([] ++ cores) rfl (O2.out.alloc _) w2.heap.size c rfl (heap_alloc_new w2 _) (Nat.le_trans B2.out.size (wbox _ _).size) (by rw [List.nil_append, LC.out]; omega) ?_; intro v3 w3 hown2 hgrow2 _; obtain ⟨a3, c3, hv3, hr3, _⟩ := row_of_owns hown2; subst hv3; have R3 := Lib.hid hr3; have B3 := Lib.hid ((B2.out.alloc B2.out.size _).grown hgrow2 (Nat.le_trans B2.out.size (wbox _ _).size) (fun g hg => (O2.out.lt g hg).1)); clear hown2 hgrow2 hr3)
                      | fail)
                    refine (IH.out (cores ++ [(c : Int)]) a3 _ c3 w3 (H.out.below B3.out) (by have h1 := R3.out; rw [List.nil_append, show (cores ++ [(c : Int)]).length = cores.length + 1 from (by simp)] at h1; exact h1) (by have h1 := LC.out; omega)).mono ?_
                    rintro e w4 ⟨rfl, hb⟩
                    have B4 := Lib.hid (below_next B3.out hb)
                    clear hb
                    rw [HV.out]
                    by_cases vl : v c < bs
                    · have b5 : decide (v c < bs) = true := decide_eq_true vl
                      have NX := Lib.hid (BY.out YO.out vl)
                      clear vl
                      go_wp2
                      go_roundw
                      case rel => exact ⟨c + 1, by go_num, by omega, by rw [NX.out], B4.out⟩
                      case measure => simp [intOf]; omega
                    · have b5 : decide (v c < bs) = false := decide_eq_false vl
                      have NX := Lib.hid (BN.out (fun q => vl q.2))
                      clear vl
                      go_wp2
                      go_roundw
                      case rel => exact ⟨c + 1, by go_num, by omega, by rw [NX.out], B4.out⟩
                      case measure => simp [intOf]; omega
                  · have b4 : (pin != (c : Int)) = true := by simp [pc2]
                    have NX := Lib.hid (BN.out (fun q => pc2 ((OK.out.mp q.1).2.2 pc1)))
                    go_wp2
                    go_roundw
                    case rel => exact ⟨c + 1, by go_num, by omega, by rw [NX.out], B.out⟩
                    case measure => simp [intOf]; omega
                · have b3 : decide (0 ≤ pin) = false := by simp; omega
                  have PQ := Lib.hid (show 0 ≤ pin → pin = c from fun q => absurd q pc1)
                  have YO := Lib.hid (OK.out.mpr ⟨rfl, rfl, PQ.out⟩)
                  go_wp2_with (first
                    | (at_builtin; refine app_row rfl _ _ rfl w.heap.size (.slice (some ⟨wr.heap.size, 0, none⟩) 0 0) [] rfl E0.out b lb cb cores rfl (G.out.below B0.out) B0.out.size (by simp; omega) ?_; intro v2 w2 hown2 hgrow2; have O2 := Lib.hid hown2; have B2 := Lib.hid (B0.out.grown hgrow2 B0.out.size (fun g hg => (E0.out.lt g hg).1)); clear hown2 hgrow2)
                    | (at_builtin; refine app_int rfl _ _ rfl w.heap.size v2 ([] ++ cores) rfl (O2.out.alloc _) w2.heap.size c rfl (heap_alloc_new w2 _) (Nat.le_trans B2.out.size (wbox _ _).size) (by rw [List.nil_append, LC.out]; omega) ?_; intro v3 w3 hown2 hgrow2 _; obtain ⟨a3, c3, hv3, hr3, _⟩ := row_of_owns hown2; subst hv3; have R3 := Lib.hid hr3; have B3 := Lib.hid ((B2.out.alloc B2.out.size _).grown hgrow2 (Nat.le_trans B2.out.size (wbox _ _).size) (fun g hg => (O2.out.lt g hg).1)); clear hown2 hgrow2 hr3)
                    | fail)
                  refine (IH.out (cores ++ [(c : Int)]) a3 _ c3 w3 (H.out.below B3.out) (by have h1 := R3.out; rw [List.nil_append, show (cores ++ [(c : Int)]).length = cores.length + 1 from (by simp)] at h1; exact h1) (by have h1 := LC.out; omega)).mono ?_
                  rintro e w4 ⟨rfl, hb⟩
                  have B4 := Lib.hid (below_next B3.out hb)
                  clear hb
                  rw [HV.out]
                  by_cases vl : v c < bs
                  · have b5 : decide (v c < bs) = true := decide_eq_true vl
                    have NX := Lib.hid (BY.out YO.out vl)
                    clear vl
                    go_wp2
                    go_roundw
                    case rel => exact ⟨c + 1, by go_num, by omega, by rw [NX.out], B4.out⟩
                    case measure => simp [intOf]; omega
                  · have b5 : decide (v c < bs) = false := decide_eq_false vl
                    have NX := Lib.hid (BN.out (fun q => vl q.2))
                    clear vl
                    go_wp2
                    go_roundw
                    case rel => exact ⟨c + 1, by go_num, by omega, by rw [NX.out], B4.out⟩
                    case measure => simp [intOf]; omega
      · have b1 : decide ((c : Int) < (n : Int)) = false := by simp; omega
        have b1' : decide (c < n) = false := by simp; omega
        have ce : c = n := by omega
        have V := Lib.hid (show bestC l cores v c = bestV l n (k + 1) cores by rw [BV.out, ce])
        clear ce
        go_wp2
        go_ret
        exact ⟨ret_one V.out, B.out⟩
end Go.Proofs.Ytokmkfoofgiddaa

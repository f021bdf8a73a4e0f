/-
  Package prio: the insertion by which a short row is sorted (slices.insertionSortCmpFunc with Sort's closure): contract.
-/
import Derived.Test.YtkiolkceaibmgaaPz2
import Derived.Test.YtkiolkceaibmgaaSep
import Derived.IntWalk
namespace Go.Proofs.Ytkiolkceaibmgaa
open Go.RowKit

theorem pins_none (v f : Value) (lo hi : Int) (w : World) (h0 : 0 ≤ lo) (h1 : lo ≤ 1000) (h2 : hi ≤ lo + 1) :
    Calls Try.prog 37 #[v, .int .i64 lo, .int .i64 hi, f] w fun e w' => e = .returned (.tuple #[]) ∧ w = w' := by
  have t1 : decide (lo + 1 < hi) = false := by simp; omega
  go_enter Try.func37, Try.ntmps37
  go_wp2
  go_loopw [8] (fun u wr => u = .int .i64 (lo + 1) ∧ w = wr) (fun _ _ => 0)
  case atStart => exact ⟨rfl, rfl⟩
  case round =>
    obtain ⟨rfl, rfl⟩ := hrel
    go_wp2
    exact bodyPost_end (v := .tuple #[]) (by simp [results, Try.results37, go_sem]) rfl ⟨rfl, rfl⟩
theorem swap_list (p t : List Ent) (x y : Ent) (k : Nat) (h : p.length = k) : ((p ++ y :: x :: t).set (k + 1) y).set k x = p ++ x :: y :: t := by
  subst h
  induction p with
  | nil => rfl
  | cons z p ih => simp
theorem at_len (p t : List Ent) (y : Ent) (k : Nat) (h : p.length = k) : (p ++ y :: t)[k]? = some y := by subst h; simp
theorem keeps12 {w W : World} {g a0 a1 a2 a3 a4 a5 b0 b1 b2 b3 b4 b5 : Nat} {u0 u1 u2 u3 u4 u5 v0 v1 v2 v3 v4 v5 : Value} (h : Keeps (fun k => k = g) w W) :
    Keeps (fun k => k = g) w ((((((((((((W.setCell ⟨g, a0, none⟩ u0).setCell ⟨g, a1, none⟩ u1).setCell ⟨g, a2, none⟩ u2).setCell ⟨g, a3, none⟩ u3).setCell ⟨g, a4, none⟩ u4).setCell ⟨g, a5, none⟩ u5).setCell ⟨g, b0, none⟩ v0).setCell ⟨g, b1, none⟩ v1).setCell ⟨g, b2, none⟩ v2).setCell ⟨g, b3, none⟩ v3).setCell ⟨g, b4, none⟩ v4).setCell ⟨g, b5, none⟩ v5).drew :=
  ((((((((((((h.set (.inl rfl) _ _).set (.inl rfl) _ _).set (.inl rfl) _ _).set (.inl rfl) _ _).set (.inl rfl) _ _).set (.inl rfl) _ _).set (.inl rfl) _ _).set (.inl rfl) _ _).set (.inl rfl) _ _).set (.inl rfl) _ _).set (.inl rfl) _ _).set (.inl rfl) _ _).drew
set_option maxRecDepth 20000 in
set_option maxHeartbeats 4000000 in
theorem pins_all (B g cap n : Nat) (es : List Ent) (w : World) (h : w.ownsRow B 27 6 (.slice (some ⟨g, 0, none⟩) n cap) n (es.map Ent.cs).flatten) (hl : es.length = n) (n1 : 1 ≤ n) (n2 : n ≤ 1000) :
    Calls Try.prog 37 #[(.slice (some ⟨g, 0, none⟩) n cap), .int .i64 0, .int .i64 n, .func (.func 24) #[] #[]] w fun e w' => e = .returned (.tuple #[]) ∧ w'.ownsRow B 27 6 (.slice (some ⟨g, 0, none⟩) n cap) n ((sortE es).map Ent.cs).flatten ∧ Keeps (fun k => k = g) w w' := by
  have H := Lib.hid h
  have LN := Lib.hid hl
  clear h hl
  go_enter Try.func37, Try.ntmps37
  go_wp2
  go_loopw [8] (fun u wr => ∃ i : Nat, u = .int .i64 i ∧ 1 ≤ i ∧ i ≤ n ∧ wr.ownsRow B 27 6 (.slice (some ⟨g, 0, none⟩) n cap) n ((sortE (es.take i) ++ es.drop i).map Ent.cs).flatten ∧ Keeps (fun k => k = g) w wr) (fun u _ => n - (intOf u).toNat)
  case atStart =>
    refine ⟨1, rfl, by omega, by omega, ?_, Keeps.refl _ _⟩
    have e : sortE (es.take 1) ++ es.drop 1 = es := by
      cases es with
      | nil => rfl
      | cons x r => rfl
    rw [e]; exact H.out
  case round =>
    obtain ⟨i, rfl, i0, i1, hown, hk⟩ := hrel
    have HO := Lib.hid hown
    have K := Lib.hid hk
    clear hown hk
    by_cases go : i < n
    · have b1 : decide (i < n) = true := by simp; omega
      have b2 : decide ((i : Int) < (n : Int)) = true := by simp; omega
      obtain ⟨x, hx, _, hxs⟩ := getE (es := es) (i := i) (by rw [LN.out]; exact go)
      have ET := Lib.hid (show sortE (es.take (i + 1)) = ins x (sortE (es.take i)) by rw [← sortE_snoc, List.take_add_one, hx]; rfl)
      have ED := Lib.hid (show es.drop i = x :: es.drop (i + 1) by
        rw [List.drop_eq_getElem_cons (by rw [LN.out]; exact go)]
        rw [List.getElem?_eq_getElem (by rw [LN.out]; exact go)] at hx
        simp at hx; rw [hx])
      clear hx hxs
      have SO := Lib.hid (sortE_sorted (es.take i))
      have LS := Lib.hid (show (sortE (es.take i)).length = i by rw [sortE_len, List.length_take, LN.out]; omega)
      rw [ED.out] at HO
      obtain ⟨s, hs⟩ : ∃ s, sortE (es.take i) = s := ⟨_, rfl⟩
      rw [hs] at ET HO SO LS
      clear hs ED
      obtain ⟨r, hr⟩ : ∃ r, es.drop (i + 1) = r := ⟨_, rfl⟩
      have RR := Lib.hid hr
      rw [hr] at HO
      clear hr
      obtain ⟨wa, hwa⟩ : ∃ wa, wa = wr := ⟨_, rfl⟩
      rw [← hwa] at HO K ⊢
      clear hwa
      go_wp2
      go_loopw [9] (fun u wr => ∃ (j : Nat) (c : Int) (p q : List Ent), u = .int .i64 c ∧ c = (j : Int) ∧ j ≤ i ∧ p.length = j ∧ s = p ++ q ∧ (∀ y ∈ q, lessB x y = true) ∧ wr.ownsRow B 27 6 (.slice (some ⟨g, 0, none⟩) n cap) n ((p ++ x :: (q ++ r)).map Ent.cs).flatten ∧ Keeps (fun k => k = g) w wr) (fun u _ => (intOf u).toNat)
      case atStart => exact ⟨i, i, s, [], rfl, rfl, Nat.le_refl _, LS.out, by simp, (fun _ h => by cases h), by rw [List.nil_append]; exact HO.out, K.out⟩
      case round =>
        obtain ⟨j, c, p, q, rfl, hc, ji, hp, hs, hq, hown, hk⟩ := hrel
        clear HO K
        have HO := Lib.hid hown
        have K := Lib.hid hk
        have PL := Lib.hid hp
        have SS := Lib.hid hs
        have Q := Lib.hid hq
        clear hown hk hp hs hq
        cases j with
        | zero =>
          obtain rfl : c = 0 := by simpa using hc
          clear hc
          have g1 : decide ((0 : Int) < 0) = false := by decide
          go_wp2_with fail
          go_quiet (fail)
          go_wp2
          go_roundw
          case rel =>
            refine ⟨i + 1, by go_num, by omega, by omega, ?_, K.out.next ⟨rfl, rfl, rfl, Nat.le_refl _, fun _ _ => rfl⟩⟩
            obtain rfl : p = [] := List.length_eq_zero_iff.mp PL.out
            rw [ET.out, RR.out, SS.out, ins_at (p := []) (fun _ h => by cases h) Q.out]
            rw [List.nil_append] at HO
            exact HO.out
          case measure => simp [intOf]; omega
        | succ k =>
          obtain rfl : c = (k : Int) + 1 := by rw [hc]; omega
          clear hc
          obtain ⟨p', y, hpy⟩ : ∃ p' y, p = p' ++ [y] := by
            rcases List.eq_nil_or_concat p with e | ⟨p', y, e⟩
            · have := PL.out; rw [e] at this; cases this
            · exact ⟨p', y, by rw [e, List.concat_eq_append]⟩
          subst hpy
          have PK := Lib.hid (show p'.length = k by have := PL.out; simpa using this)
          rw [List.append_assoc, List.singleton_append] at HO
          have XW := Lib.hid (owns_at HO.out (i := k + 1) (e := x) (by rw [← PK.out]; simp))
          have YW := Lib.hid (owns_at HO.out (i := k) (e := y) (at_len _ _ _ _ PK.out))
          have k1 : (k : Int) + 1 < (n : Int) := by omega
          have k2 : (k : Int) < (n : Int) := by omega
          have k3 : 0 ≤ (k : Int) := by omega
          have k4 : 0 ≤ (k : Int) + 1 := by omega
          have k5 : 0 < (k : Int) + 1 := by omega
          have k6 : ((k : Int) + 1).toNat = k + 1 := by omega
          have k7 : IntKind.i64.wrap ((k : Int) + 1 - 1) = (k : Int) := by rw [IntWalk.i64_in _ (by omega)]; omega
          have k8 : IntKind.i64.wrap (k : Int) = (k : Int) := IntWalk.i64_in _ (by omega)
          obtain ⟨c, hc⟩ : ∃ c, cmpE x y = c := ⟨_, rfl⟩
          have CC := Lib.hid hc
          have CN := Lib.hid (show decide (c < 0) = lessB x y by rw [← hc]; exact cmpE_neg x y)
          clear hc
          go_wp2_with fail
          have KEPT := Lib.hid (show ∀ W : World, Below wr.heap.size wr W → W.cell? ⟨g, (k + 1) * 6, none⟩ = some (.int .i64 x.id) ∧ W.cell? ⟨g, (k + 1) * 6 + 1, none⟩ = some (.int .i64 x.idx) ∧ W.cell? ⟨g, (k + 1) * 6 + 2, none⟩ = some (.int .i64 x.rel) ∧ W.cell? ⟨g, (k + 1) * 6 + 3, none⟩ = some (.int .i64 x.dl) ∧ W.cell? ⟨g, (k + 1) * 6 + 4, none⟩ = some (.int .i64 x.bit) ∧ W.cell? ⟨g, (k + 1) * 6 + 5, none⟩ = some (.int .i64 x.grp) ∧ W.cell? ⟨g, k * 6, none⟩ = some (.int .i64 y.id) ∧ W.cell? ⟨g, k * 6 + 1, none⟩ = some (.int .i64 y.idx) ∧ W.cell? ⟨g, k * 6 + 2, none⟩ = some (.int .i64 y.rel) ∧ W.cell? ⟨g, k * 6 + 3, none⟩ = some (.int .i64 y.dl) ∧ W.cell? ⟨g, k * 6 + 4, none⟩ = some (.int .i64 y.bit) ∧ W.cell? ⟨g, k * 6 + 5, none⟩ = some (.int .i64 y.grp) from fun W h => ⟨(XW.out.below h).c0, (XW.out.below h).c1, (XW.out.below h).c2, (XW.out.below h).c3, (XW.out.below h).c4, (XW.out.below h).c5, (YW.out.below h).c0, (YW.out.below h).c1, (YW.out.below h).c2, (YW.out.below h).c3, (YW.out.below h).c4, (YW.out.below h).c5⟩)
          have BL := Lib.hid (show Below wr.heap.size wr wr.drew from (Below.refl _ _).drew)
          go_region_held3 (fun W => W.cell? ⟨g, (k + 1) * 6, none⟩ = some (.int .i64 x.id) ∧ W.cell? ⟨g, (k + 1) * 6 + 1, none⟩ = some (.int .i64 x.idx) ∧ W.cell? ⟨g, (k + 1) * 6 + 2, none⟩ = some (.int .i64 x.rel) ∧ W.cell? ⟨g, (k + 1) * 6 + 3, none⟩ = some (.int .i64 x.dl) ∧ W.cell? ⟨g, (k + 1) * 6 + 4, none⟩ = some (.int .i64 x.bit) ∧ W.cell? ⟨g, (k + 1) * 6 + 5, none⟩ = some (.int .i64 x.grp) ∧ W.cell? ⟨g, k * 6, none⟩ = some (.int .i64 y.id) ∧ W.cell? ⟨g, k * 6 + 1, none⟩ = some (.int .i64 y.idx) ∧ W.cell? ⟨g, k * 6 + 2, none⟩ = some (.int .i64 y.rel) ∧ W.cell? ⟨g, k * 6 + 3, none⟩ = some (.int .i64 y.dl) ∧ W.cell? ⟨g, k * 6 + 4, none⟩ = some (.int .i64 y.bit) ∧ W.cell? ⟨g, k * 6 + 5, none⟩ = some (.int .i64 y.grp))
            (exact KEPT.out _ BL.out)
            (first | (go_at_call 24; (with_reducible refine (pcmp_at x y c _ CC.out).mono ?_); rintro e w4 ⟨rfl, hb⟩; have BL := Lib.hid (below_next BL.out hb); clear hb))
          all_goals
            have HO := Lib.hid (owns_below HO.out BL.out)
            have K := Lib.hid (K.out.next BL.out)
            have XW := Lib.hid (XW.out.below BL.out)
            have YW := Lib.hid (YW.out.below BL.out)
            clear BL KEPT
            obtain ⟨f, hf⟩ : ∃ f, lessB x y = f := ⟨_, rfl⟩
            have F := Lib.hid hf
            have c1 : decide (c < 0) = f := by rw [CN.out]; exact hf
            rw [c1]
            clear hf c1 CN
            cases f with
            | true =>
              have x0 := XW.out.c0; have x1 := XW.out.c1; have x2 := XW.out.c2; have x3 := XW.out.c3; have x4 := XW.out.c4; have x5 := XW.out.c5
              have y0 := YW.out.c0; have y1 := YW.out.c1; have y2 := YW.out.c2; have y3 := YW.out.c3; have y4 := YW.out.c4; have y5 := YW.out.c5
              have fz : ∀ o, w4.frozen? ⟨g, o, none⟩ = false := fun o => HO.out.frozenAt o
              go_wp2_with fail
              clear k6
              go_region
              all_goals
                go_wp2
                go_roundw
                case rel =>
                  refine ⟨k, k, p', y :: q, rfl, rfl, by omega, PK.out, by rw [SS.out, List.append_assoc]; rfl, ?_, ?_, ?_⟩
                  · intro z hz
                    rcases List.mem_cons.mp hz with e | e
                    · rw [e]; exact F.out
                    · exact Q.out z e
                  · have h1 := owns_ent HO.out (k + 1) (x := x) y (by rw [← PK.out]; simp)
                    have h2 := owns_ent h1 k (x := y) x (by rw [List.getElem?_set_ne (by omega)]; exact at_len _ _ _ _ PK.out)
                    rw [swap_list _ _ _ _ _ PK.out] at h2
                    exact h2.drew
                  · exact keeps12 K.out
                case measure => simp [intOf]
            | false =>
              go_wp2
              go_roundw
              case rel =>
                refine ⟨i + 1, by go_num, by omega, by omega, ?_, K.out⟩
                rw [ET.out, RR.out, SS.out, ins_at (p := p' ++ [y]) ?_ Q.out, List.append_assoc, List.append_assoc, List.singleton_append]
                · exact HO.out
                · have := before_all SO.out (k := k) (y := y) (x := x) (by rw [SS.out, List.append_assoc]; exact at_len _ _ _ _ PK.out) F.out
                  rw [SS.out, List.take_append_of_le_length (by rw [PL.out]; omega), List.take_of_length_le (by rw [PL.out]; omega)] at this
                  exact this
              case measure => simp [intOf]; omega
    · have b1 : decide (i < n) = false := by simp; omega
      have b2 : decide ((i : Int) < (n : Int)) = false := by simp; omega
      have EF := Lib.hid (show sortE (es.take i) ++ es.drop i = sortE es by rw [List.take_of_length_le (by rw [LN.out]; omega), List.drop_eq_nil_of_le (by rw [LN.out]; omega), List.append_nil])
      rw [EF.out] at HO
      go_wp2
      exact bodyPost_end (v := .tuple #[]) (by simp [results, Try.results37, go_sem]) rfl ⟨rfl, HO.out, K.out⟩
end Go.Proofs.Ytkiolkceaibmgaa

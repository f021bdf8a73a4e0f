/-
  Package prio: slices.stableCmpFunc and slices.SortStableFunc of at most 20 entries, Sort, Pick: contracts.
-/
import Derived.Test.YtkiolkceaibmgaaPz3
namespace Go.Proofs.Ytkiolkceaibmgaa
open Go.RowKit

theorem sort_nil : sortE [] = [] := rfl
theorem owns_some {w : World} {base : Nat} {e : TypeId} {c : Nat} {v : Value} {n : Nat} {xs : List Value} (h : w.ownsRow base e c v n xs) (hn : 0 < n) : ∃ g cap, v = .slice (some ⟨g, 0, none⟩) n cap := by
  rcases h.2 with ⟨_, h0⟩ | ⟨g, cap, _, hv, _⟩
  · omega
  · exact ⟨g, cap, hv⟩
theorem pins_to (B g cap n : Nat) (es : List Ent) (w : World) (hi : Int) (h : w.ownsRow B 27 6 (.slice (some ⟨g, 0, none⟩) n cap) n (es.map Ent.cs).flatten) (hl : es.length = n) (n1 : 1 ≤ n) (n2 : n ≤ 1000) (e : (n : Int) = hi) :
    Calls Try.prog 37 #[.slice (some ⟨g, 0, none⟩) n cap, .int .i64 0, .int .i64 hi, .func (.func 24) #[] #[]] w fun e w' => e = .returned (.tuple #[]) ∧ w'.ownsRow B 27 6 (.slice (some ⟨g, 0, none⟩) n cap) n ((sortE es).map Ent.cs).flatten ∧ Keeps (fun k => k = g) w w' := by
  subst e
  exact pins_all B g cap n es w h hl n1 n2
set_option maxRecDepth 20000 in
set_option maxHeartbeats 2000000 in
theorem pstable_few (v : Value) (w : World) :
    Calls Try.prog 33 #[v, .int .i64 0, .func (.func 24) #[] #[]] w fun e w' => e = .returned (.tuple #[]) ∧ w = w' := by
  go_enter Try.func33, Try.ntmps33
  go_wp2
  go_loopw [7, 8] (fun a b wr => a = .int .i64 0 ∧ b = .int .i64 20 ∧ w = wr) (fun _ _ _ => 0)
  case atStart => exact ⟨rfl, rfl, rfl⟩
  case round =>
    obtain ⟨rfl, rfl, rfl⟩ := hrel
    go_wp2_with fail
    refine (pins_none v _ 0 0 _ (by omega) (by omega) (by omega)).mono ?_
    rintro e wz ⟨rfl, rfl⟩
    go_wp2
    go_loopw [6] (fun u wx => u = .int .i64 20 ∧ w = wx) (fun _ _ => 0)
    case atStart => exact ⟨rfl, rfl⟩
    case round =>
      obtain ⟨rfl, rfl⟩ := hrel
      go_wp2
      exact bodyPost_end (v := .tuple #[]) (by simp [results, Try.results33, go_sem]) rfl ⟨rfl, rfl⟩
set_option maxRecDepth 20000 in
set_option maxHeartbeats 2000000 in
theorem pstable_some (B g cap n : Nat) (es : List Ent) (w : World) (h : w.ownsRow B 27 6 (.slice (some ⟨g, 0, none⟩) n cap) n (es.map Ent.cs).flatten) (hl : es.length = n) (n1 : 1 ≤ n) (n2 : n ≤ 20) :
    Calls Try.prog 33 #[.slice (some ⟨g, 0, none⟩) n cap, .int .i64 n, .func (.func 24) #[] #[]] w fun e w' => e = .returned (.tuple #[]) ∧ w'.ownsRow B 27 6 (.slice (some ⟨g, 0, none⟩) n cap) n ((sortE es).map Ent.cs).flatten ∧ Keeps (fun k => k = g) w w' := by
  have H := Lib.hid h
  have LN := Lib.hid hl
  clear h hl
  have t20 : decide ((20 : Int) < (n : Int)) = false := by simp; omega
  have t21 : decide (20 < n) = false := by simp; omega
  go_enter Try.func33, Try.ntmps33
  go_wp2
  go_loopw [7, 8] (fun a b wr => (a = .int .i64 0 ∧ b = .int .i64 20 ∧ w = wr) ∨ (a = .int .i64 20 ∧ b = .int .i64 40 ∧ 20 ≤ n ∧ wr.ownsRow B 27 6 (.slice (some ⟨g, 0, none⟩) n cap) n ((sortE es).map Ent.cs).flatten ∧ Keeps (fun k => k = g) w wr)) (fun _ b _ => 40 - (intOf b).toNat)
  case atStart => exact .inl ⟨rfl, rfl, rfl⟩
  case round =>
    rcases hrel with ⟨rfl, rfl, rfl⟩ | ⟨rfl, rfl, hn, hown, hk⟩
    · by_cases go : 20 ≤ n
      · have t1 : decide ((20 : Int) ≤ (n : Int)) = true := by simp; omega
        have t2 : decide (20 ≤ n) = true := by simp; omega
        go_wp2_with fail
        refine (pins_to B g cap n es _ 20 H.out LN.out (by omega) (by omega) (by omega)).mono ?_
        rintro e wz ⟨rfl, hown, hk⟩
        have HO := Lib.hid hown
        have K := Lib.hid hk
        clear hown hk
        go_wp2
        go_roundw
        case rel => exact .inr ⟨rfl, rfl, go, HO.out, K.out⟩
        case measure => simp [intOf]
      · have t1 : decide ((20 : Int) ≤ (n : Int)) = false := by simp; omega
        have t2 : decide (20 ≤ n) = false := by simp; omega
        go_wp2_with fail
        refine (pins_all B g cap n es _ H.out LN.out (by omega) (by omega)).mono ?_
        rintro e wz ⟨rfl, hown, hk⟩
        have HO := Lib.hid hown
        have K := Lib.hid hk
        clear hown hk
        go_wp2
        go_loopw [6] (fun u wx => u = .int .i64 20 ∧ wz = wx) (fun _ _ => 0)
        case atStart => exact ⟨rfl, rfl⟩
        case round =>
          obtain ⟨rfl, rfl⟩ := hrel
          go_wp2
          exact bodyPost_end (v := .tuple #[]) (by simp [results, Try.results33, go_sem]) rfl ⟨rfl, HO.out, K.out⟩
    · have HO := Lib.hid hown
      have K := Lib.hid hk
      have t1 : decide ((40 : Int) ≤ (n : Int)) = false := by simp; omega
      have t2 : decide (40 ≤ n) = false := by simp; omega
      clear hown hk
      go_wp2_with fail
      refine (pins_none _ _ 20 n _ (by omega) (by omega) (by omega)).mono ?_
      rintro e wz ⟨rfl, rfl⟩
      obtain ⟨wz, hwz⟩ : ∃ wz, wz = wr := ⟨_, rfl⟩
      rw [← hwz] at HO K ⊢
      clear hwz
      go_wp2
      go_loopw [6] (fun u wx => u = .int .i64 20 ∧ wz = wx) (fun _ _ => 0)
      case atStart => exact ⟨rfl, rfl⟩
      case round =>
        obtain ⟨rfl, rfl⟩ := hrel
        go_wp2
        exact bodyPost_end (v := .tuple #[]) (by simp [results, Try.results33, go_sem]) rfl ⟨rfl, HO.out, K.out⟩

theorem psortstable_few (a : Option Addr) (c : Nat) (w : World) :
    Calls Try.prog 23 #[.slice a 0 c, .func (.func 24) #[] #[]] w fun e w' => e = .returned (.tuple #[]) ∧ w = w' := by
  go_enter Try.func23, Try.ntmps23
  go_wp2_with fail
  refine (pstable_few _ _).mono ?_
  rintro e wz ⟨rfl, rfl⟩
  go_wp2
  exact bodyPost_end (v := .tuple #[]) (by simp [results, Try.results23, go_sem]) rfl ⟨rfl, rfl⟩
theorem psortstable_some (B g cap n : Nat) (es : List Ent) (w : World) (h : w.ownsRow B 27 6 (.slice (some ⟨g, 0, none⟩) n cap) n (es.map Ent.cs).flatten) (hl : es.length = n) (n1 : 1 ≤ n) (n2 : n ≤ 20) :
    Calls Try.prog 23 #[.slice (some ⟨g, 0, none⟩) n cap, .func (.func 24) #[] #[]] w fun e w' => e = .returned (.tuple #[]) ∧ w'.ownsRow B 27 6 (.slice (some ⟨g, 0, none⟩) n cap) n ((sortE es).map Ent.cs).flatten ∧ Keeps (fun k => k = g) w w' := by
  have H := Lib.hid h
  have LN := Lib.hid hl
  clear h hl
  go_enter Try.func23, Try.ntmps23
  go_wp2_with fail
  refine (pstable_some B g cap n es _ H.out LN.out n1 n2).mono ?_
  rintro e wz ⟨rfl, hown, hk⟩
  have HO := Lib.hid hown
  have K := Lib.hid hk
  clear hown hk
  go_wp2
  exact bodyPost_end (v := .tuple #[]) (by simp [results, Try.results23, go_sem]) rfl ⟨rfl, HO.out, K.out⟩
theorem psort_any (a : Option Addr) (len cap : Nat) (es : List Ent) (w : World) (h : RowE w a len cap es) (hl : len ≤ 20) :
    Calls Try.prog 12 #[.slice a len cap] w (GivesE w (sortE es)) := by
  have H := Lib.hid h
  have LN := Lib.hid h.len
  clear h
  go_enter Try.func12, Try.ntmps12
  go_wp2_with fail
  refine (pclone_any a len cap es _ H.out (by omega)).mono ?_
  rintro e w1 ⟨v, rfl, hown, hb⟩
  have HO := Lib.hid hown
  have B := Lib.hid hb
  clear hown hb
  by_cases n1 : 1 ≤ len
  · obtain ⟨g, c, rfl⟩ := owns_some HO.out n1
    have GE := Lib.hid (HO.out.lt g rfl).1
    go_wp2_with fail
    refine (psortstable_some _ g c len es _ HO.out LN.out n1 hl).mono ?_
    rintro e w2 ⟨rfl, hown, hk⟩
    obtain ⟨a', cap', hv, hrow, hfr⟩ := rowE_of_owns hown (by rw [sortE_len]; exact LN.out)
    simp only [Value.slice.injEq, true_and] at hv
    obtain ⟨rfl, rfl⟩ := hv
    have R := Lib.hid hrow
    have F := Lib.hid hfr
    have B2 := Lib.hid (hk.below B.out (fun k e => by rw [e]; exact GE.out) B.out.size)
    clear hown hk hrow hfr
    go_wp2
    go_ret
    exact ⟨_, _, _, rfl, R.out, B2.out, F.out⟩
  · obtain rfl : len = 0 := by omega
    obtain ⟨a', cap', rfl, hrow, hfr⟩ := rowE_of_owns HO.out LN.out
    obtain rfl : es = [] := List.length_eq_zero_iff.mp LN.out
    have R := Lib.hid hrow
    have F := Lib.hid hfr
    clear hrow hfr n1
    go_wp2_with fail
    refine (psortstable_few _ _ _).mono ?_
    rintro e w2 ⟨rfl, rfl⟩
    go_wp2
    go_ret
    exact ⟨_, _, _, rfl, R.out, B.out, F.out⟩
end Go.Proofs.Ytkiolkceaibmgaa

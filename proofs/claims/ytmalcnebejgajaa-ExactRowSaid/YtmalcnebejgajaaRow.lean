/-
  The walk of ExactRow: it answers true, and writes nothing that was there.
-/
import Derived.Test.YtmalcnebejgajaaAwake
import Derived.Outline
namespace Go.Proofs.Ytmalcnebejgajaa.exactRow
open Go.RowKit

theorem Try.info2 : (Try.prog.info? 2).map (fun i => (i.zero, i.size, i.bytes)) = some (some (.int .i64 0), 1, 8) := by kernel_rfl

theorem mask64 (x : Int) : 0 ≤ bits .and .i64 x 1048575 ∧ bits .and .i64 x 1048575 ≤ 1048575 := by
  have h : (BitVec.ofInt 64 x &&& BitVec.ofInt 64 1048575).toNat ≤ 1048575 := by
    rw [BitVec.toNat_and]
    exact Nat.and_le_right
  have e : bits .and .i64 x 1048575 = ((BitVec.ofInt 64 x &&& BitVec.ofInt 64 1048575).toNat : Int) := by
    show IntKind.i64.wrap ((BitVec.ofInt 64 x &&& BitVec.ofInt 64 1048575).toNat : Int) = _
    exact IntWalk.i64_in _ (by omega)
  omega

theorem rowL_snoc (l : List Int) (x : Int) : ∀ m, rowL m (l ++ [x]) = if (rowL m l).2 = 0 then rowL (rowL m l).1 [x] else rowL m l := by
  induction l with
  | nil =>
    intro m
    show rowL m [x] = if (0 : Int) = 0 then rowL m [x] else _
    rw [if_pos rfl]
  | cons n r ih =>
    intro m
    by_cases h : le m n = 0
    · rw [List.cons_append, rowL_step h, rowL_step h, ih]
    · rw [List.cons_append, rowL_stop h, rowL_stop h, if_neg h]
theorem rowL_err (l : List Int) : ∀ m, 0 < m → m ≤ 9223372036854775807 → (∀ z ∈ l, 1 ≤ z) → ((rowL m l).2 = 0 ∧ 0 < (rowL m l).1 ∧ (rowL m l).1 ≤ 9223372036854775807) ∨ (rowL m l).2 = 16 := by
  induction l with
  | nil => intro m h1 h2 _; exact .inl ⟨rfl, h1, h2⟩
  | cons n r ih =>
    intro m h1 h2 hz
    by_cases h : le m n = 0
    · have e := (le_zero h1 h).2.2.2
      rw [rowL_step h]
      exact ih _ (by omega) e.2 (fun z hz' => hz z (List.mem_cons_of_mem _ hz'))
    · rw [rowL_stop h]
      refine .inr ?_
      show le m n = 16
      have hn := hz n (List.mem_cons_self ..)
      rw [le_up hn] at h ⊢
      by_cases f : Fits (lc m n)
      · rw [te_in f] at h; exact absurd rfl h
      · exact te_out f
theorem gc_one {a : Int} : gc 1 a = 1 := by
  have h : Int.gcd 1 a = 1 := by simp
  unfold gc; rw [h]; rfl
theorem lc_one (a : Int) : lc 1 a = a := by
  unfold lc; rw [gc_one, Int.ediv_one, Int.one_mul]
theorem rowL_one {a : Int} (x : Int) (ha : 0 < a) (ha' : a ≤ 9223372036854775807) : rowL 1 [a, x] = rowL a [x] := by
  have fa : Fits a := ⟨by omega, ha'⟩
  have e1 : le 1 a = 0 := by rw [le_up (by omega), lc_one, te_in fa]
  have v1 : lv 1 a = a := by rw [lv_up (by omega), lc_one, tv_in fa]
  rw [rowL_step e1, v1]
theorem take_snoc {ms : List Int} {t : Nat} (h : t < ms.length) : ms.take (t + 1) = ms.take t ++ [ms.getD t 0] := by
  rw [List.take_succ_eq_append_getElem h, List.getD_eq_getElem?_getD, List.getElem?_eq_getElem h]; rfl

theorem row_len {zs : List Int} {len : Nat} (e : zs.length = len) (b off cap : Nat) (w : World) (hz : ∀ z ∈ zs, Fits z) (hl : len ≤ 9223372036854775807)
    (hc : ∀ i, i < len → w.cell? ⟨b, off + i, none⟩ = some (.int .i64 (zs.getD i 0))) :
    Calls Try.prog 22 #[.slice (some ⟨b, off, none⟩) len cap] w fun e w' => e = .returned (.tuple #[.int .i64 (rowL 1 zs).1, .int .i64 (rowL 1 zs).2]) ∧ ∃ n, w' = w.drewN n := by
  subst e
  exact lcm_row zs b off cap w hz hl hc
theorem fits_small {z : Int} (h : 1 ≤ z ∧ z ≤ 1048576) : Fits z := ⟨by omega, by omega⟩
theorem get_take {ms : List Int} {i m : Nat} (h : i < m) : (ms.take m).getD i 0 = ms.getD i 0 := by
  rw [List.getD_eq_getElem?_getD, List.getD_eq_getElem?_getD, List.getElem?_take_of_lt h]

/-- how the second loop stands ahead of its round j: what was found so far, and whether it was too great -/
def St (ms : List Int) (j : Nat) (A : Int) (O : Bool) : Prop :=
  (j = 0 ∧ A = 1 ∧ O = false) ∨ ∃ t, j = t + 1 ∧ A = (rowL 1 (ms.take t)).1 ∧ O = ((rowL 1 (ms.take t)).2 != 0)

/-- what a round adds: N, E is what is told of the first t + 1 -/
theorem st_next {ms : List Int} {t : Nat} {A : Int} {O : Bool} (hz : ∀ z ∈ ms, 1 ≤ z) (ht : t < ms.length) (h : St ms (t + 1) A O) :
    ∃ N E : Int, rowL 1 (ms.take (t + 1)) = (N, E) ∧ St ms (t + 2) N (E != 0) ∧
      ((O = false ∧ rowL 1 [A, ms.getD t 0] = (N, E) ∧ 0 < A ∧ A ≤ 9223372036854775807 ∧ (E = 0 ∨ E = 16)) ∨ (O = true ∧ E = 16)) := by
  rcases h with ⟨h, _⟩ | ⟨t', e, hA, hO⟩
  · omega
  · obtain rfl : t = t' := by omega
    refine ⟨(rowL 1 (ms.take (t + 1))).1, (rowL 1 (ms.take (t + 1))).2, rfl, .inr ⟨t + 1, rfl, rfl, rfl⟩, ?_⟩
    have hs := rowL_snoc (ms.take t) (ms.getD t 0) 1
    rw [← take_snoc ht] at hs
    have he := rowL_err (ms.take t) 1 (by omega) (by omega) (fun z h => hz z (List.mem_of_mem_take h))
    have he' := rowL_err (ms.take (t + 1)) 1 (by omega) (by omega) (fun z h => hz z (List.mem_of_mem_take h))
    rcases he with ⟨e0, e1, e2⟩ | e0
    · rw [if_pos e0, ← hA] at hs
      rw [← hA] at e1 e2
      refine .inl ⟨by rw [hO, e0]; rfl, ?_, e1, e2, ?_⟩
      · rw [rowL_one _ e1 e2, ← hs]
      · rcases he' with h | h
        · exact .inl h.1
        · exact .inr h
    · rw [if_neg (by omega)] at hs
      refine .inr ⟨by rw [hO, e0]; rfl, ?_⟩
      rw [hs]; exact e0


theorem walk_row (a : Option Addr) (len cap : Nat) (zs : List Int) (w : World) (_hlen : len ≤ 9223372036854775807)
    (hc : ∀ i, i < len → ∃ b off, a = some ⟨b, off, none⟩ ∧ w.cell? ⟨b, off + i, none⟩ = some (.int .i64 (zs.getD i 0))) :
    Calls Try.prog 8 #[.slice a len cap] w fun e w' => e = .returned (.bool true) ∧ Below w.heap.size w w' := by
  obtain ⟨i0, hi, hz0, hz1, hz2⟩ := info_parts Try.info2
  have C := Lib.hid hc
  clear hc
  go_enter Try.func8, Try.ntmps8
  go_wp2_with (go_at_call 9; refine (awake_any _).mono ?_; rintro e w1 ⟨rfl, hb⟩)
  have HB := Lib.hid hb
  have hbs := hb.size
  clear hb
  go_loopw [4, 5] (fun v i wr => ∃ (k : Nat) (ms : List Int), k ≤ len ∧ k ≤ 8 ∧ i = .int .i64 k ∧ ms.length = k ∧ (∀ z ∈ ms, 1 ≤ z ∧ z ≤ 1048576) ∧ wr.ownsRow w.heap.size 2 1 v k (ms.map (Value.int .i64)) ∧ Below w.heap.size w wr) (fun _ i _ => 8 - (intOf i).toNat)
  case atStart => exact ⟨0, [], Nat.zero_le _, by omega, rfl, rfl, (fun z hz => by cases hz), World.ownsRow_nil _ _ _ _, HB.out⟩
  case round =>
    obtain ⟨k, ms, hk, hk8, rfl, hms, hmz, hown, hbel⟩ := hrel
    have HM := Lib.hid hms
    have HZ := Lib.hid hmz
    have HO := Lib.hid hown
    have HW := Lib.hid hbel
    have hsz := hbel.size
    clear hms hmz hown hbel
    by_cases h : k < len
    · by_cases h8 : k < 8
      · obtain ⟨b, off, rfl, hcell0⟩ := C.out k h
        obtain ⟨z, hz⟩ : ∃ z, zs.getD k 0 = z := ⟨_, rfl⟩
        rw [hz] at hcell0
        have hcell := (HW.out.cell (World.block_lt_of_cell? _ _ hcell0)).trans hcell0
        clear hz hcell0
        obtain ⟨x1, x2⟩ := mask64 z
        obtain ⟨X, hX⟩ : ∃ X, bits .and .i64 z 1048575 = X := ⟨_, rfl⟩
        rw [hX] at x1 x2
        go_wp2_with (at_builtin; refine wpList_append_own _ rfl _ _ 27 rfl w.heap.size 2 i0 (.int .i64 0) 1 8 Try.underlying27 hi hz0 hz1 hz2 rfl (by decide) _ _ _ rfl (HO.out.alloc _) ⟨wr.heap.size, 0, none⟩ 1 1 [.int .i64 (1 + X)] rfl rfl ?c1 ?c2 ?c3 ?c4 ?c5 ?_)
        case c1 =>
          intro j u hj
          match j, hj with
          | 0, hj => simp at hj; subst hj; simp [Addr.add]
        case c2 => intro u hu; simp at hu; subst hu; rfl
        case c3 => unfold maxLen; omega
        case c4 => omega
        case c5 => simp; omega
        intro v' w2 hown' hgrow hnil
        clear hnil
        have HO' := Lib.hid hown'
        have HG := Lib.hid hgrow
        clear hown' hgrow
        go_wp2
        go_roundw
        case rel =>
          refine ⟨k + 1, ms ++ [1 + X], by omega, by omega, by go_num, by simp [HM.out], ?_, ?_, ?_⟩
          · intro y hy
            simp at hy
            rcases hy with hy | rfl
            · exact HZ.out y hy
            · omega
          · have := HO'.out
            rw [List.map_append]
            exact this
          · exact (HW.out.alloc hsz _).grown HG.out (by simp; omega) (fun g hg => (HO.out.lt g hg).1)
        case measure => simp [intOf]; omega
      · have h8' : decide ((k : Int) < 8) = false := by simp; omega
        obtain ⟨wa, rfl⟩ : ∃ wa, wa = wr := ⟨_, rfl⟩
        rcases HO.out.2 with ⟨rfl, hk0⟩ | ⟨g, cp, cur, rfl, hg1, hg2, hcp, hmx, hcs, htk⟩
        · omega
        · have gb := (HO.out.lt g rfl).2
          have hcg : ∀ t, t < k → wa.cell? ⟨g, t, none⟩ = some (.int .i64 (ms.getD t 0)) := fun t ht => by
            rw [HO.out.cellAt t (by omega), List.getElem?_map, List.getElem?_eq_getElem (by rw [HM.out]; exact ht), List.getD_eq_getElem?_getD, List.getElem?_eq_getElem (by rw [HM.out]; exact ht)]; rfl
          have HC := Lib.hid (show ∀ W, Below wa.heap.size wa W → ∀ t, t < k → W.cell? ⟨g, t, none⟩ = some (.int .i64 (ms.getD t 0)) from fun W hW t ht => (hW.cell (p := ⟨g, t, none⟩) gb).trans (hcg t ht))
          clear hg1 hg2 hcs htk hcg
          unfold maxLen at hmx
          go_wp2
          go_loopw [6, 7, 8] (fun u o i ws => ∃ (j : Nat) (A : Int) (O : Bool), j ≤ k + 1 ∧ i = .int .i64 j ∧ u = .int .i64 A ∧ o = .bool O ∧ St ms j A O ∧ Below wa.heap.size wa ws) (fun _ _ i _ => k + 1 - (intOf i).toNat)
          case atStart => exact ⟨0, 1, false, by omega, rfl, rfl, rfl, .inl ⟨rfl, rfl, rfl⟩, Below.refl _ _⟩
          case round =>
            obtain ⟨j, A, O, hj, rfl, rfl, rfl, hst, hbw⟩ := hrel
            have HS := Lib.hid hst
            have HV := Lib.hid hbw
            clear hst hbw
            by_cases hjk : j ≤ k
            · cases j with
              | zero =>
                obtain ⟨rfl, rfl⟩ : A = 1 ∧ O = false := by
                  rcases HS.out with ⟨_, h1, h2⟩ | ⟨t, h1, _⟩
                  · exact ⟨h1, h2⟩
                  · omega
                go_wp2_with (go_at_call 22; refine (lcm_none _ _ _).mono ?_; rintro e w' ⟨rfl, n, rfl⟩)
                go_roundw
                case rel => exact ⟨1, 1, false, by omega, by go_num, rfl, rfl, .inr ⟨0, rfl, rfl, rfl⟩, below_drewN HV.out _⟩
                case measure => simp [intOf] <;> omega
              | succ t =>
                obtain ⟨N, E, hN, hst', hways⟩ := st_next (fun z hz => (HZ.out z hz).1) (show t < ms.length by rw [HM.out]; omega) HS.out
                have HS' := Lib.hid hst'
                have C1 := Lib.hid (show ∀ W, Below wa.heap.size wa W → Calls Try.prog 22 #[.slice (some ⟨g, 0, none⟩) (t + 1) cp] W fun e w' => e = .returned (.tuple #[.int .i64 N, .int .i64 E]) ∧ ∃ n, w' = W.drewN n from fun W hW => by
                  have := row_len (zs := ms.take (t + 1)) (len := t + 1) (by rw [List.length_take, HM.out]; omega) g 0 cp W (fun z hz => fits_small (HZ.out z (List.mem_of_mem_take hz))) (by omega)
                    (fun i hi => by rw [Nat.zero_add, get_take hi, HC.out W hW i (by omega)])
                  rwa [hN] at this)
                clear hst' hN
                rcases hways with ⟨rfl, hr, hA, hA', hE⟩ | ⟨rfl, rfl⟩
                · have hx := HC.out _ HV.out t (by omega)
                  have fx := fits_at (fun z hz => fits_small (HZ.out z hz)) t
                  obtain ⟨x, hx0⟩ : ∃ x, ms.getD t 0 = x := ⟨_, rfl⟩
                  rw [hx0] at hx fx hr
                  have C2 := Lib.hid (show ∀ (W : World) (b cap : Nat), W.cell? ⟨b, 0, none⟩ = some (.int .i64 A) → W.cell? ⟨b, 1, none⟩ = some (.int .i64 x) → Calls Try.prog 22 #[.slice (some ⟨b, 0, none⟩) 2 cap] W fun e w' => e = .returned (.tuple #[.int .i64 N, .int .i64 E]) ∧ ∃ n, w' = W.drewN n from fun W b cap c0 c1 => by
                    have := lcm_two A x W b cap ⟨by omega, hA'⟩ fx c0 c1
                    rwa [hr] at this)
                  clear hr fx hx0
                  rcases hE with rfl | rfl
                  · go_wp2_with fail
                    refine (C1.out _ HV.out).mono ?_
                    rintro e w' ⟨rfl, n, rfl⟩
                    go_wp2_with fail
                    refine (C2.out _ _ _ ((World.cell?_alloc_at _ _ _ _ rfl).trans rfl) ((World.cell?_alloc_at _ _ _ _ rfl).trans rfl)).mono ?_
                    rintro e w' ⟨rfl, n', rfl⟩
                    go_wp2
                    go_roundw
                    case rel => exact ⟨t + 2, N, false, by omega, by go_num, rfl, rfl, HS'.out, below_drewN ((below_drewN HV.out _).alloc HV.out.size _) _⟩
                    case measure => simp [intOf] <;> omega
                  · go_wp2_with fail
                    refine (C1.out _ HV.out).mono ?_
                    rintro e w' ⟨rfl, n, rfl⟩
                    go_wp2_with fail
                    refine (C2.out _ _ _ ((World.cell?_alloc_at _ _ _ _ rfl).trans rfl) ((World.cell?_alloc_at _ _ _ _ rfl).trans rfl)).mono ?_
                    rintro e w' ⟨rfl, n', rfl⟩
                    go_wp2
                    go_roundw
                    case rel => exact ⟨t + 2, N, true, by omega, by go_num, rfl, rfl, HS'.out, below_drewN ((below_drewN HV.out _).alloc HV.out.size _) _⟩
                    case measure => simp [intOf] <;> omega
                · go_wp2_with fail
                  refine (C1.out _ HV.out).mono ?_
                  rintro e w' ⟨rfl, n, rfl⟩
                  go_wp2
                  go_roundw
                  case rel => exact ⟨t + 2, N, true, by omega, by go_num, rfl, rfl, HS'.out, below_drewN HV.out _⟩
                  case measure => simp [intOf] <;> omega
            · go_wp2
              go_ret
              exact ⟨rfl, HW.out.trans (HV.out.mono hsz)⟩
    · have h' : decide (k < len) = false := by simp; omega
      obtain ⟨wa, rfl⟩ : ∃ wa, wa = wr := ⟨_, rfl⟩
      rcases HO.out.2 with ⟨rfl, hk0⟩ | ⟨g, cp, cur, rfl, hg1, hg2, hcp, hmx, hcs, htk⟩
      · have hk1 : k ≤ 0 := by omega
        clear hk0
        go_wp2
        go_loopw [6, 7, 8] (fun u o i ws => ∃ j : Nat, j ≤ 1 ∧ i = .int .i64 j ∧ u = .int .i64 1 ∧ o = .bool false ∧ Below wa.heap.size wa ws) (fun _ _ i _ => 1 - (intOf i).toNat)
        case atStart => exact ⟨0, by omega, rfl, rfl, rfl, Below.refl _ _⟩
        case round =>
          obtain ⟨j, hj, rfl, rfl, rfl, hbw⟩ := hrel
          have HV := Lib.hid hbw
          clear hbw
          by_cases hj0 : j = 0
          · subst hj0
            go_wp2_with (go_at_call 22; refine (lcm_none _ _ _).mono ?_; rintro e w' ⟨rfl, n, rfl⟩)
            go_roundw
            case rel => exact ⟨1, by omega, by go_num, rfl, rfl, below_drewN HV.out _⟩
            case measure => simp [intOf] <;> omega
          · obtain rfl : j = 1 := by omega
            go_wp2
            go_ret
            exact ⟨rfl, HW.out.trans (HV.out.mono hsz)⟩
      · have gb := (HO.out.lt g rfl).2
        have hcg : ∀ t, t < k → wa.cell? ⟨g, t, none⟩ = some (.int .i64 (ms.getD t 0)) := fun t ht => by
          rw [HO.out.cellAt t (by omega), List.getElem?_map, List.getElem?_eq_getElem (by rw [HM.out]; exact ht), List.getD_eq_getElem?_getD, List.getElem?_eq_getElem (by rw [HM.out]; exact ht)]; rfl
        have HC := Lib.hid (show ∀ W, Below wa.heap.size wa W → ∀ t, t < k → W.cell? ⟨g, t, none⟩ = some (.int .i64 (ms.getD t 0)) from fun W hW t ht => (hW.cell (p := ⟨g, t, none⟩) gb).trans (hcg t ht))
        clear hg1 hg2 hcs htk hcg
        unfold maxLen at hmx
        go_wp2
        go_loopw [6, 7, 8] (fun u o i ws => ∃ (j : Nat) (A : Int) (O : Bool), j ≤ k + 1 ∧ i = .int .i64 j ∧ u = .int .i64 A ∧ o = .bool O ∧ St ms j A O ∧ Below wa.heap.size wa ws) (fun _ _ i _ => k + 1 - (intOf i).toNat)
        case atStart => exact ⟨0, 1, false, by omega, rfl, rfl, rfl, .inl ⟨rfl, rfl, rfl⟩, Below.refl _ _⟩
        case round =>
          obtain ⟨j, A, O, hj, rfl, rfl, rfl, hst, hbw⟩ := hrel
          have HS := Lib.hid hst
          have HV := Lib.hid hbw
          clear hst hbw
          by_cases hjk : j ≤ k
          · cases j with
            | zero =>
              obtain ⟨rfl, rfl⟩ : A = 1 ∧ O = false := by
                rcases HS.out with ⟨_, h1, h2⟩ | ⟨t, h1, _⟩
                · exact ⟨h1, h2⟩
                · omega
              go_wp2_with (go_at_call 22; refine (lcm_none _ _ _).mono ?_; rintro e w' ⟨rfl, n, rfl⟩)
              go_roundw
              case rel => exact ⟨1, 1, false, by omega, by go_num, rfl, rfl, .inr ⟨0, rfl, rfl, rfl⟩, below_drewN HV.out _⟩
              case measure => simp [intOf] <;> omega
            | succ t =>
              obtain ⟨N, E, hN, hst', hways⟩ := st_next (fun z hz => (HZ.out z hz).1) (show t < ms.length by rw [HM.out]; omega) HS.out
              have HS' := Lib.hid hst'
              have C1 := Lib.hid (show ∀ W, Below wa.heap.size wa W → Calls Try.prog 22 #[.slice (some ⟨g, 0, none⟩) (t + 1) cp] W fun e w' => e = .returned (.tuple #[.int .i64 N, .int .i64 E]) ∧ ∃ n, w' = W.drewN n from fun W hW => by
                have := row_len (zs := ms.take (t + 1)) (len := t + 1) (by rw [List.length_take, HM.out]; omega) g 0 cp W (fun z hz => fits_small (HZ.out z (List.mem_of_mem_take hz))) (by omega)
                  (fun i hi => by rw [Nat.zero_add, get_take hi, HC.out W hW i (by omega)])
                rwa [hN] at this)
              clear hst' hN
              rcases hways with ⟨rfl, hr, hA, hA', hE⟩ | ⟨rfl, rfl⟩
              · have hx := HC.out _ HV.out t (by omega)
                have fx := fits_at (fun z hz => fits_small (HZ.out z hz)) t
                obtain ⟨x, hx0⟩ : ∃ x, ms.getD t 0 = x := ⟨_, rfl⟩
                rw [hx0] at hx fx hr
                have C2 := Lib.hid (show ∀ (W : World) (b cap : Nat), W.cell? ⟨b, 0, none⟩ = some (.int .i64 A) → W.cell? ⟨b, 1, none⟩ = some (.int .i64 x) → Calls Try.prog 22 #[.slice (some ⟨b, 0, none⟩) 2 cap] W fun e w' => e = .returned (.tuple #[.int .i64 N, .int .i64 E]) ∧ ∃ n, w' = W.drewN n from fun W b cap c0 c1 => by
                  have := lcm_two A x W b cap ⟨by omega, hA'⟩ fx c0 c1
                  rwa [hr] at this)
                clear hr fx hx0
                rcases hE with rfl | rfl
                · go_wp2_with fail
                  refine (C1.out _ HV.out).mono ?_
                  rintro e w' ⟨rfl, n, rfl⟩
                  go_wp2_with fail
                  refine (C2.out _ _ _ ((World.cell?_alloc_at _ _ _ _ rfl).trans rfl) ((World.cell?_alloc_at _ _ _ _ rfl).trans rfl)).mono ?_
                  rintro e w' ⟨rfl, n', rfl⟩
                  go_wp2
                  go_roundw
                  case rel => exact ⟨t + 2, N, false, by omega, by go_num, rfl, rfl, HS'.out, below_drewN ((below_drewN HV.out _).alloc HV.out.size _) _⟩
                  case measure => simp [intOf] <;> omega
                · go_wp2_with fail
                  refine (C1.out _ HV.out).mono ?_
                  rintro e w' ⟨rfl, n, rfl⟩
                  go_wp2_with fail
                  refine (C2.out _ _ _ ((World.cell?_alloc_at _ _ _ _ rfl).trans rfl) ((World.cell?_alloc_at _ _ _ _ rfl).trans rfl)).mono ?_
                  rintro e w' ⟨rfl, n', rfl⟩
                  go_wp2
                  go_roundw
                  case rel => exact ⟨t + 2, N, true, by omega, by go_num, rfl, rfl, HS'.out, below_drewN ((below_drewN HV.out _).alloc HV.out.size _) _⟩
                  case measure => simp [intOf] <;> omega
              · go_wp2_with fail
                refine (C1.out _ HV.out).mono ?_
                rintro e w' ⟨rfl, n, rfl⟩
                go_wp2
                go_roundw
                case rel => exact ⟨t + 2, N, true, by omega, by go_num, rfl, rfl, HS'.out, below_drewN HV.out _⟩
                case measure => simp [intOf] <;> omega
          · go_wp2
            go_ret
            exact ⟨rfl, HW.out.trans (HV.out.mono hsz)⟩
end Go.Proofs.Ytmalcnebejgajaa.exactRow

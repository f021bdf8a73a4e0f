/-
  Package place's Moves: contract.
-/
import Derived.Test.YtokmkfoofgiddaaPa1
namespace Go.Proofs.Ytokmkfoofgiddaa
open Go.RowKit

set_option maxRecDepth 20000 in
set_option maxHeartbeats 2000000 in
theorem pmoves_any (a : Option Addr) (len cap : Nat) (l : List Rn) (b : Option Addr) (lb cb : Nat) (cs : List Int) (w : World) (h : RowR w a len cap l) (g : Row .i64 w b lb cb cs) (hl : len ≤ 1024) :
    Calls Try.prog 15 #[.slice a len cap, .slice b lb cb] w fun e w' => e = .returned (.int .i64 (movesR l cs)) ∧ Below w.heap.size w w' := by
  have H := Lib.hid h
  have G := Lib.hid g
  have LN := Lib.hid h.len
  have LC := Lib.hid g.len
  have ⟨c1, c2⟩ := h.cap_le
  have hn0 : a = none → cap = 0 := h.2.2.2.1
  clear h g
  obtain ⟨k, hk⟩ : ∃ k, min len lb = k := ⟨_, rfl⟩
  have k1 : k ≤ len := by omega
  have k2 : k ≤ lb := by omega
  have KK := Lib.hid (show k = len ∨ k = lb by omega)
  have d4 : min (len : Int) (lb : Int) = (k : Int) := by omega
  have d1 : (k : Int) ≤ (cap : Int) := by omega
  have d2 : 0 ≤ (k : Int) := by omega
  have d3 : k ≤ cap := by omega
  have NZ := Lib.hid hn0
  clear hk hn0
  have main : ∀ (ad : Option Addr), a = ad → Calls Try.prog 15 #[.slice ad len cap, .slice b lb cb] w fun e w' => e = .returned (.int .i64 (movesR l cs)) ∧ Below w.heap.size w w' := by
    intro ad had
    by_cases cz : cap = 0
    · subst cz
      obtain rfl : len = 0 := by omega
      obtain rfl : k = 0 := by omega
      have V := Lib.hid (show movesR l cs = 0 by have : l = [] := List.length_eq_zero_iff.mp LN.out; rw [this]; simp [movesR])
      clear had
      cases ad with
      | none =>
        go_enter Try.func15, Try.ntmps15
        go_wp2
        go_loopw [5, 16] (fun v u wr => v = .int .i64 0 ∧ u = .int .i64 0 ∧ w = wr) (fun _ _ _ => 0)
        case atStart => exact ⟨rfl, rfl, rfl⟩
        case round =>
          obtain ⟨rfl, rfl, rfl⟩ := hrel
          go_wp2
          go_ret
          exact ⟨by rw [V.out]; rfl, Below.refl _ _⟩
      | some ad =>
        go_enter Try.func15, Try.ntmps15
        go_wp2
        go_loopw [5, 16] (fun v u wr => v = .int .i64 0 ∧ u = .int .i64 0 ∧ w = wr) (fun _ _ _ => 0)
        case atStart => exact ⟨rfl, rfl, rfl⟩
        case round =>
          obtain ⟨rfl, rfl, rfl⟩ := hrel
          go_wp2
          go_ret
          exact ⟨by rw [V.out]; rfl, Below.refl _ _⟩
    cases ad with
    | none => exact absurd (NZ.out had) cz
    | some ad =>
      obtain ⟨ba, oa, sp⟩ := ad
      have HA := Lib.hid had
      clear had
      have sp0 : 0 < len → sp = none := fun q => by
        obtain ⟨r, hr, _⟩ := getR (l := l) (i := 0) (by rw [LN.out]; exact q)
        obtain ⟨b', o', e, _⟩ := H.out.at hr
        rw [HA.out] at e
        cases e
        rfl
      have SP := Lib.hid sp0
      clear sp0
      by_cases q : len ≤ lb
      · have t2 : decide (len ≤ lb) = true := by simp; omega
        have t3 : decide ((len : Int) ≤ (lb : Int)) = true := by simp; omega
        have kl : k = len := by omega
        clear q
        subst kl
        go_enter Try.func15, Try.ntmps15
        go_wp2
        go_loopw [5, 16] (fun v u wr => ∃ i : Nat, u = .int .i64 i ∧ i ≤ k ∧ v = .int .i64 (movesR (l.take i) (cs.take i)) ∧ Below w.heap.size w wr) (fun _ u _ => k - (intOf u).toNat)
        case atStart => exact ⟨0, rfl, by omega, by simp [movesR], Below.refl _ _⟩
        case round =>
          obtain ⟨i, rfl, i1, rfl, hb⟩ := hrel
          have B := Lib.hid hb
          clear hb
          have hbd := moves_bd l cs i
          have ME := Lib.hid (fun (q : i = k) => moves_end l cs i (by rw [LN.out, LC.out, q]; exact .inl rfl) (by rw [LN.out]; omega) (by rw [LC.out]; omega))
          obtain ⟨n, hn⟩ : ∃ n, movesR (l.take i) (cs.take i) = n := ⟨_, rfl⟩
          have HN := Lib.hid hn
          rw [hn] at hbd ME ⊢
          clear hn
          by_cases go1 : i < k
          · have b1 : decide ((i : Int) < (k : Int)) = true := by simp; omega
            have b1' : decide (i < k) = true := by simp; omega
            obtain ⟨r, hr, _⟩ := getR (l := l) (i := i) (by rw [LN.out]; omega)
            obtain ⟨c, hc, hcd⟩ := getI (cs := cs) (i := i) (by rw [LC.out]; omega)
            have MS := Lib.hid (moves_step hr hc)
            obtain ⟨ba', oa', hae, hat⟩ := H.out.at hr
            obtain ⟨bb, ob, rfl, hcell⟩ := G.out.cell (i := i) (by omega)
            have hae := hae
            rw [HA.out] at hae
            cases hae
            rw [hcd] at hcell
            have BX := Lib.hid (below_next B.out (wbox wr (Obj.cells #[.int .i64 r.id, .int .i64 r.pin, .int .i64 r.last] 39)))
            have XA := Lib.hid (hat.below B.out)
            have x0 := XA.out.c0; have x1 := XA.out.c1; have x2 := XA.out.c2
            have y := cell_on BX.out hcell
            have i3 : (i : Int) < (k : Int) := by omega
            have i4 : (i : Int) < (lb : Int) := by omega
            have i0 : 0 ≤ (i : Int) := by omega
            clear hr hc hat hcell hcd
            have ww : IntKind.i64.wrap ((n : Int) + 1) = n + 1 := IntWalk.i64_in _ (by omega)
            obtain ⟨id, pin, z⟩ := r
            replace x0 : wr.cell? ⟨ba, oa + i * 3, none⟩ = some (.int .i64 id) := x0
            replace x1 : wr.cell? ⟨ba, oa + i * 3 + 1, none⟩ = some (.int .i64 pin) := x1
            replace x2 : wr.cell? ⟨ba, oa + i * 3 + 2, none⟩ = some (.int .i64 z) := x2
            replace y : (wr.alloc (Obj.cells #[.int .i64 id, .int .i64 pin, .int .i64 z] 39)).cell? ⟨bb, ob + i, none⟩ = some (.int .i64 c) := y
            have BX2 := Lib.hid (show Below w.heap.size w (wr.alloc (Obj.cells #[.int .i64 id, .int .i64 pin, .int .i64 z] 39)) from BX.out)
            have MS2 := Lib.hid (show movesR (l.take (i + 1)) (cs.take (i + 1)) = n + if z ≠ -1 ∧ z ≠ c then 1 else 0 by rw [MS.out, HN.out])
            clear BX MS XA
            by_cases t1 : z = -1
            · have b3 : (z != -1) = false := by simp [t1]
              have NX := Lib.hid (show movesR (l.take (i + 1)) (cs.take (i + 1)) = n by rw [MS2.out, if_neg (fun q => q.1 t1), Nat.add_zero])
              clear t1
              go_upto_region 5 with fail
              go_quiet (fail)
              go_wp2
              go_roundw
              case rel => exact ⟨i + 1, by go_num, by omega, by rw [NX.out], bdN BX2.out _⟩
              case measure => simp [intOf]; omega
            · have b3 : (z != -1) = true := by simp [t1]
              by_cases t2 : z = c
              · have b4 : (z != c) = false := by simp [t2]
                have NX := Lib.hid (show movesR (l.take (i + 1)) (cs.take (i + 1)) = n by rw [MS2.out, if_neg (fun q => q.2 t2), Nat.add_zero])
                clear t1 t2
                go_upto_region 5 with fail
                go_quiet (fail)
                go_wp2
                go_roundw
                case rel => exact ⟨i + 1, by go_num, by omega, by rw [NX.out], bdN BX2.out _⟩
                case measure => simp [intOf]; omega
              · have b4 : (z != c) = true := by simp [t2]
                have NX := Lib.hid (show movesR (l.take (i + 1)) (cs.take (i + 1)) = n + 1 by rw [MS2.out, if_pos ⟨t1, t2⟩])
                clear t1 t2
                go_upto_region 5 with fail
                go_quiet (fail)
                go_wp2
                go_roundw
                case rel => exact ⟨i + 1, by go_num, by omega, by rw [NX.out]; go_num, bdN BX2.out _⟩
                case measure => simp [intOf]; omega
          · have b1 : decide ((i : Int) < (k : Int)) = false := by simp; omega
            have b1' : decide (i < k) = false := by simp; omega
            go_wp2
            go_ret
            exact ⟨ret_one (by rw [← ME.out (by omega)]), B.out⟩

      · have t2 : decide (len ≤ lb) = false := by simp; omega
        have t3 : decide ((len : Int) ≤ (lb : Int)) = false := by simp; omega
        have kl : k = lb := by omega
        have t4 : k < len := by omega
        clear q
        subst kl
        go_enter Try.func15, Try.ntmps15
        go_wp2
        go_loopw [5, 16] (fun v u wr => ∃ i : Nat, u = .int .i64 i ∧ i ≤ k ∧ v = .int .i64 (movesR (l.take i) (cs.take i)) ∧ Below w.heap.size w wr) (fun _ u _ => k - (intOf u).toNat)
        case atStart => exact ⟨0, rfl, by omega, by simp [movesR], Below.refl _ _⟩
        case round =>
          obtain ⟨i, rfl, i1, rfl, hb⟩ := hrel
          have B := Lib.hid hb
          clear hb
          have hbd := moves_bd l cs i
          have ME := Lib.hid (fun (q : i = k) => moves_end l cs i (by rw [LN.out, LC.out, q]; exact .inr rfl) (by rw [LN.out]; omega) (by rw [LC.out]; omega))
          obtain ⟨n, hn⟩ : ∃ n, movesR (l.take i) (cs.take i) = n := ⟨_, rfl⟩
          have HN := Lib.hid hn
          rw [hn] at hbd ME ⊢
          clear hn
          by_cases go1 : i < k
          · have b1 : decide ((i : Int) < (k : Int)) = true := by simp; omega
            have b1' : decide (i < k) = true := by simp; omega
            obtain ⟨r, hr, _⟩ := getR (l := l) (i := i) (by rw [LN.out]; omega)
            obtain ⟨c, hc, hcd⟩ := getI (cs := cs) (i := i) (by rw [LC.out]; omega)
            have MS := Lib.hid (moves_step hr hc)
            obtain ⟨ba', oa', hae, hat⟩ := H.out.at hr
            obtain ⟨bb, ob, rfl, hcell⟩ := G.out.cell (i := i) (by omega)
            have hae := hae
            rw [HA.out] at hae
            cases hae
            rw [hcd] at hcell
            have BX := Lib.hid (below_next B.out (wbox wr (Obj.cells #[.int .i64 r.id, .int .i64 r.pin, .int .i64 r.last] 39)))
            have XA := Lib.hid (hat.below B.out)
            have x0 := XA.out.c0; have x1 := XA.out.c1; have x2 := XA.out.c2
            have y := cell_on BX.out hcell
            have i3 : (i : Int) < (k : Int) := by omega
            have i4 : (i : Int) < (k : Int) := by omega
            have i0 : 0 ≤ (i : Int) := by omega
            clear hr hc hat hcell hcd
            have ww : IntKind.i64.wrap ((n : Int) + 1) = n + 1 := IntWalk.i64_in _ (by omega)
            obtain ⟨id, pin, z⟩ := r
            replace x0 : wr.cell? ⟨ba, oa + i * 3, none⟩ = some (.int .i64 id) := x0
            replace x1 : wr.cell? ⟨ba, oa + i * 3 + 1, none⟩ = some (.int .i64 pin) := x1
            replace x2 : wr.cell? ⟨ba, oa + i * 3 + 2, none⟩ = some (.int .i64 z) := x2
            replace y : (wr.alloc (Obj.cells #[.int .i64 id, .int .i64 pin, .int .i64 z] 39)).cell? ⟨bb, ob + i, none⟩ = some (.int .i64 c) := y
            have BX2 := Lib.hid (show Below w.heap.size w (wr.alloc (Obj.cells #[.int .i64 id, .int .i64 pin, .int .i64 z] 39)) from BX.out)
            have MS2 := Lib.hid (show movesR (l.take (i + 1)) (cs.take (i + 1)) = n + if z ≠ -1 ∧ z ≠ c then 1 else 0 by rw [MS.out, HN.out])
            clear BX MS XA
            by_cases t1 : z = -1
            · have b3 : (z != -1) = false := by simp [t1]
              have NX := Lib.hid (show movesR (l.take (i + 1)) (cs.take (i + 1)) = n by rw [MS2.out, if_neg (fun q => q.1 t1), Nat.add_zero])
              clear t1
              go_upto_region 5 with fail
              go_quiet (fail)
              go_wp2
              go_roundw
              case rel => exact ⟨i + 1, by go_num, by omega, by rw [NX.out], bdN BX2.out _⟩
              case measure => simp [intOf]; omega
            · have b3 : (z != -1) = true := by simp [t1]
              by_cases t2 : z = c
              · have b4 : (z != c) = false := by simp [t2]
                have NX := Lib.hid (show movesR (l.take (i + 1)) (cs.take (i + 1)) = n by rw [MS2.out, if_neg (fun q => q.2 t2), Nat.add_zero])
                clear t1 t2
                go_upto_region 5 with fail
                go_quiet (fail)
                go_wp2
                go_roundw
                case rel => exact ⟨i + 1, by go_num, by omega, by rw [NX.out], bdN BX2.out _⟩
                case measure => simp [intOf]; omega
              · have b4 : (z != c) = true := by simp [t2]
                have NX := Lib.hid (show movesR (l.take (i + 1)) (cs.take (i + 1)) = n + 1 by rw [MS2.out, if_pos ⟨t1, t2⟩])
                clear t1 t2
                go_upto_region 5 with fail
                go_quiet (fail)
                go_wp2
                go_roundw
                case rel => exact ⟨i + 1, by go_num, by omega, by rw [NX.out]; go_num, bdN BX2.out _⟩
                case measure => simp [intOf]; omega
          · have b1 : decide ((i : Int) < (k : Int)) = false := by simp; omega
            have b1' : decide (i < k) = false := by simp; omega
            go_wp2
            go_ret
            exact ⟨ret_one (by rw [← ME.out (by omega)]), B.out⟩
  exact main a rfl
end Go.Proofs.Ytokmkfoofgiddaa

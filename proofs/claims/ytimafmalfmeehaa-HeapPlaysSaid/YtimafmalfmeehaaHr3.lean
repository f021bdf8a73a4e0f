/-
  The document's own heap (regattaref07): Min, Pop: contracts.
-/
import Derived.Test.YtimafmalfmeehaaHr2
namespace Go.Proofs.Ytimafmalfmeehaa
open Go.RowKit

theorem hb_cell {w w2 : World} {p : Addr} {v : Value} (hb : Below w.heap.size w w2) (h : w.cell? p = some v) : w2.cell? p = some v := (hb.cell (World.block_lt_of_cell? _ _ h)).trans h
/-- one thing goes ahead of another one -/
def AheadT (a b : Th) : Prop := m15 a.x < m15 b.x ∨ (m15 a.x = m15 b.x ∧ a.id < b.id)
/-- none of the first i goes ahead of number k -/
def MinIn (ts : List Th) (i k : Nat) : Prop := ∃ t, ts[k]? = some t ∧ ∀ s ∈ ts.take i, ¬ AheadT s t
set_option maxRecDepth 20000 in
set_option maxHeartbeats 4000000 in
theorem r7min_any (g : Nat) (F : Nat → Prop) (ts : List Th) (w : World) (h : RH w g F ts) (hl : ts.length ≤ 1000) :
    Calls Try.prog 18 #[.pointer (some ⟨g, 0, none⟩)] w
      fun e w' => ((ts = [] ∧ e = .returned (.int .i64 (-1))) ∨ ∃ k : Nat, MinIn ts ts.length k ∧ e = .returned (.int .i64 (k : Int))) ∧ Below w.heap.size w w' := by
  obtain ⟨v, hb, ho, hF, hne⟩ := h
  obtain ⟨a, cap, rfl, hr, _⟩ := rowT_of_owns ho rfl
  have R := Lib.hid hr
  obtain ⟨len, hlen⟩ : ∃ len, ts.length = len := ⟨_, rfl⟩
  rw [hlen] at R hl hb ⊢
  have BK := Lib.hid hb
  have LN := Lib.hid hlen
  clear hb ho hr hlen hF hne
  go_enter Try.func18, Try.ntmps18
  go_wp2
  go_loopw [3, 4] (fun v u wr => ∃ (i : Nat) (c : Int), u = .int .i64 i ∧ i ≤ len ∧ v = .int .i64 c ∧ ((i = 0 ∧ c = -1) ∨ ∃ k : Nat, c = (k : Int) ∧ k < i ∧ MinIn ts i k) ∧ Below w.heap.size w wr) (fun _ u _ => len - (intOf u).toNat)
  case atStart => exact ⟨0, -1, rfl, by omega, rfl, .inl ⟨rfl, rfl⟩, Below.refl _ _⟩
  case round =>
    obtain ⟨i, c, rfl, il, rfl, hk, hbel⟩ := hrel
    have B := Lib.hid hbel
    have BW := Lib.hid (BK.out.below hbel)
    have RW := Lib.hid (R.out.below hbel)
    have c1 := BW.out.cell 0
    simp at c1
    clear hbel
    by_cases go : i < len
    · have b1 : decide (i < len) = true := by simp; omega
      have b2 : decide ((i : Int) < (len : Int)) = true := by simp; omega
      obtain ⟨t, ht⟩ := getT (ts := ts) (i := i) (by rw [LN.out]; exact go)
      have TS := Lib.hid (show ts.take (i + 1) = ts.take i ++ [t] by rw [List.take_add_one, ht]; rfl)
      have HT := Lib.hid ht
      have i1 : (i : Int) < (len : Int) := by omega
      have i2 : 0 ≤ (i : Int) := by omega
      rcases hk with ⟨i0, rfl⟩ | ⟨k, rfl, ki, hmin⟩
      · have NW := Lib.hid (show MinIn ts (i + 1) i from ⟨t, ht, fun s hs => by
          rw [TS.out, i0] at hs
          simp at hs
          subst hs
          unfold AheadT; omega⟩)
        clear i0 ht
        go_wp2
        go_roundw
        case rel => exact ⟨i + 1, i, by go_num, by omega, rfl, .inr ⟨i, rfl, by omega, NW.out⟩, B.out⟩
        case measure => simp [intOf]; omega
      · obtain ⟨s, hs, hall⟩ := hmin
        have t1 : decide ((k : Int) < 0) = false := decide_eq_false (by omega)
        have k1 : (k : Int) < (len : Int) := by omega
        have k2 : 0 ≤ (k : Int) := by omega
        have YES := Lib.hid (show AheadT t s → MinIn ts (i + 1) i from fun q => ⟨t, HT.out, fun z hz => by
          rw [TS.out] at hz
          rcases List.mem_append.mp hz with y | y
          · have := hall z y
            unfold AheadT at *; omega
          · rw [List.mem_singleton.mp y]; unfold AheadT; omega⟩)
        have NOT := Lib.hid (show ¬ AheadT t s → MinIn ts (i + 1) k from fun q => ⟨s, hs, fun z hz => by
          rw [TS.out] at hz
          rcases List.mem_append.mp hz with y | y
          · exact hall z y
          · rw [List.mem_singleton.mp y]; exact q⟩)
        obtain ⟨bl, ol, rfl, hat⟩ := RW.out.at ht
        obtain ⟨bo, oo, hab, hbt⟩ := RW.out.at hs
        simp only [Option.some.injEq, Addr.mk.injEq, and_true] at hab
        obtain ⟨rfl, rfl⟩ := hab
        have x0 := hat.c0; have x1 := hat.c1; have y0 := hbt.c0; have y1 := hbt.c1
        have lt1 := World.block_lt_of_cell? _ _ x0
        have gl := BW.out.lt
        have n1 : ¬ bl = wr.heap.size := Nat.ne_of_lt lt1
        have n2 : ¬ g = wr.heap.size := Nat.ne_of_lt gl
        have d0 := (BW.out.alloc (Obj.cells #[.int .i64 t.id, .int .i64 t.x] 36)).cell 0
        have e0 := (hb_cell (wbox wr (Obj.cells #[.int .i64 t.id, .int .i64 t.x] 36)) y0)
        have e1 := (hb_cell (wbox wr (Obj.cells #[.int .i64 t.id, .int .i64 t.x] 36)) y1)
        simp only [List.getElem?_toArray, List.getElem?_cons_zero] at d0
        have BB := Lib.hid (below_next (below_next B.out (wbox wr (Obj.cells #[.int .i64 t.id, .int .i64 t.x] 36))) (wbox _ (Obj.cells #[.int .i64 s.id, .int .i64 s.x] 36)))
        clear ht hs hall hat hbt
        go_wp2_with fail
        refine (r7less_any t.x s.x _).mono ?_
        rintro e w3 ⟨rfl, rfl⟩
        go_wp2_with fail
        refine (r7less_any s.x t.x _).mono ?_
        rintro e w4 ⟨rfl, rfl⟩
        by_cases p : m15 t.x < m15 s.x
        · have NW := Lib.hid (YES.out (.inl p))
          rw [decide_eq_true p]
          clear p
          go_wp2
          go_roundw
          case rel => exact ⟨i + 1, i, by go_num, by omega, rfl, .inr ⟨i, rfl, by omega, NW.out⟩, BB.out⟩
          case measure => simp [intOf]; omega
        · rw [decide_eq_false p]
          by_cases q : m15 s.x < m15 t.x
          · have NW := Lib.hid (NOT.out (by unfold AheadT; omega))
            rw [decide_eq_true q]
            clear p q
            go_wp2
            go_roundw
            case rel => exact ⟨i + 1, k, by go_num, by omega, rfl, .inr ⟨k, rfl, by omega, NW.out⟩, BB.out⟩
            case measure => simp [intOf]; omega
          · rw [decide_eq_false q]
            by_cases r : t.id < s.id
            · have NW := Lib.hid (YES.out (.inr ⟨by omega, r⟩))
              have t5 : decide (t.id < s.id) = true := decide_eq_true r
              clear p q r
              go_wp2
              go_roundw
              case rel => exact ⟨i + 1, i, by go_num, by omega, rfl, .inr ⟨i, rfl, by omega, NW.out⟩, BB.out⟩
              case measure => simp [intOf]; omega
            · have NW := Lib.hid (NOT.out (by unfold AheadT; omega))
              have t5 : decide (t.id < s.id) = false := decide_eq_false r
              clear p q r
              go_wp2
              go_roundw
              case rel => exact ⟨i + 1, k, by go_num, by omega, rfl, .inr ⟨k, rfl, by omega, NW.out⟩, BB.out⟩
              case measure => simp [intOf]; omega
    · have b1 : decide (i < len) = false := by simp; omega
      have b2 : decide ((i : Int) < (len : Int)) = false := by simp; omega
      obtain rfl : i = len := by omega
      have HK := Lib.hid hk
      clear hk
      go_wp2
      go_ret
      refine ⟨?_, B.out⟩
      rcases HK.out with ⟨z, rfl⟩ | ⟨k, rfl, _, hm⟩
      · exact .inl ⟨List.length_eq_zero_iff.mp (LN.out.trans z), rfl⟩
      · exact .inr ⟨k, hm, rfl⟩
end Go.Proofs.Ytimafmalfmeehaa

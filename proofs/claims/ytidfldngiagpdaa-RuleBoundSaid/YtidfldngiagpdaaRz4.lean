/-
  Package rule as landed: Latest: contract; the package is as P11.1 and P11.2 say.
-/
import Derived.Test.YtidfldngiagpdaaRz3
namespace Go.Proofs.Ytidfldngiagpdaa
open Go.RowKit

theorem tails {W : World} {b off len cap : Nat} {x : Ev} {rest : List Ev} (h : RowV W (some ⟨b, off, none⟩) len cap (x :: rest)) {k : Nat} {y : Ev} (hy : rest[k]? = some y) : EvAt W b (off + 3 + k * 3) y := by
  obtain ⟨b', o', ha, hat⟩ := h.at (i := k + 1) (e := y) (by simpa using hy)
  cases ha
  rwa [show off + (k + 1) * 3 = off + 3 + k * 3 by omega] at hat
theorem mem_take_succ {x : Ev} {l : List Ev} {k : Nat} {y : Ev} (hy : l[k]? = some y) : x ∈ l.take (k + 1) ↔ x ∈ l.take k ∨ x = y := by
  rw [List.take_add_one, hy]
  simp
set_option maxRecDepth 20000 in
set_option maxHeartbeats 4000000 in
theorem latest_any (a : Option Addr) (len cap : Nat) (es : List Ev) (w : World) (h : RowV w a len cap es) : Calls Try.prog 17 #[.slice a len cap] w fun z w' => ∃ e is, z = .returned (.tuple #[.agg #[.int .i64 e.d, .int .i64 e.i, .int .i64 e.k], .bool is]) ∧ Below w.heap.size w w' ∧ LastV es e is := by
  have R := Lib.hid h
  have LN := Lib.hid h.len
  have ⟨lc1, lc2⟩ := h.cap_le
  have Z := Lib.hid (Blk.new w 43 #[.int .i64 0, .int .i64 0, .int .i64 0])
  have zl := Z.out.lt
  have z0 := Z.out.cell 0
  have z1 := Z.out.cell 1
  have z2 := Z.out.cell 2
  have f0 := Z.out.free 0
  have f1 := Z.out.free 1
  have f2 := Z.out.free 2
  simp at z0 z1 z2
  rcases es with _ | ⟨x, rest⟩
  · have l0 : len = 0 := by have := LN.out; simp at this; omega
    subst l0
    clear h
    go_enter Try.func17, Try.ntmps17
    go_wp2
    refine bodyPost_ret (v := .tuple #[.agg #[.int .i64 0, .int .i64 0, .int .i64 0], .bool false]) (by simp [results, Try.results17, go_sem]) rfl ⟨ev0, false, rfl, ?_, .inl ⟨rfl, rfl, rfl⟩⟩
    exact wbox _ _
  · have l1 : len = rest.length + 1 := by have := LN.out; simp at this; omega
    have b1 : ¬ len = 0 := by omega
    have b1' : ¬ (len : Int) = 0 := by omega
    have b2 : decide (len = 0) = false := by simp; omega
    have b3 : decide ((len : Int) = 0) = false := by simp; omega
    obtain ⟨b, off, rfl, hat⟩ := h.at (i := 0) (e := x) rfl
    have x0 := hat.c0
    have x1 := hat.c1
    have x2 := hat.c2
    simp only [Nat.zero_mul, Nat.add_zero] at x0 x1 x2
    have T := Lib.hid (fun (W : World) (hb : Below w.heap.size w W) (k : Nat) (y : Ev) (hy : rest[k]? = some y) => tails (h.below hb) hy)
    have bl := hat.lt
    have L1 := Lib.hid l1
    clear h hat R LN l1
    have i0 : (0 : Int) < (len : Int) := by omega
    go_enter Try.func17, Try.ntmps17
    go_wp2_with fail
    obtain ⟨W1, hW1⟩ : ∃ W1, (w.alloc (.cells #[.int .i64 0, .int .i64 0, .int .i64 0] 43)).alloc (.cells #[.int .i64 x.d, .int .i64 x.i, .int .i64 x.k] 43) = W1 := ⟨_, rfl⟩
    have B1 := Lib.hid (show Below w.heap.size w W1 by rw [← hW1]; exact wbox2 _ _ _)
    have S1 := Lib.hid (show W1.heap.size = w.heap.size + 2 by rw [← hW1]; simp)
    have Z1 := Lib.hid (show Blk W1 43 w.heap.size #[.int .i64 0, .int .i64 0, .int .i64 0] by rw [← hW1]; exact Z.out.alloc _)
    have K1 := Lib.hid (show Blk W1 43 (w.heap.size + 1) #[.int .i64 x.d, .int .i64 x.i, .int .i64 x.k] by rw [← hW1]; exact Blk.new2 _ _ _ _)
    rw [hW1]
    clear hW1 z0 z1 z2 f0 f1 f2 x0 x1 x2
    refine (gre_new x _).mono ?_
    rintro e w1 ⟨p, q, rfl, hg, hp, hq, hb⟩
    have B2 := Lib.hid (below_next B1.out hb)
    have G2 := Lib.hid hg
    have Z2 := Lib.hid (Z1.out.below hb)
    have K2 := Lib.hid (K1.out.below hb)
    have PQ := Lib.hid (show w.heap.size + 2 ≤ p ∧ w.heap.size + 2 ≤ q by have := S1.out; omega)
    unfold greV
    clear hb hg hp hq
    by_cases c1 : cap = 1
    · have hr : rest = [] := by have := L1.out; have : rest.length = 0 := by omega
                                exact List.eq_nil_of_length_eq_zero this
      obtain rfl : len = 1 := by omega
      subst c1
      clear i0 b1 b1' b2 b3 bl T
      go_wp2
      go_loopw [20] (fun u wr => u = .int .i64 0 ∧ wr = w1) (fun _ _ => 0)
      case atStart => exact ⟨rfl, rfl⟩
      case round =>
        obtain ⟨rfl, rfl⟩ := hrel
        have k0 := K2.out.cell 0
        have k1 := K2.out.cell 1
        have k2 := K2.out.cell 2
        have z0 := Z2.out.cell 0
        have z1 := Z2.out.cell 1
        have z2 := Z2.out.cell 2
        have f0 := Z2.out.free 0
        have f1 := Z2.out.free 1
        have f2 := Z2.out.free 2
        simp at k0 k1 k2 z0 z1 z2
        go_wp2
        refine bodyPost_ret (v := .tuple #[.agg #[.int .i64 x.d, .int .i64 x.i, .int .i64 x.k], .bool true]) (by simp [results, Try.results17, go_sem, z0, z1, z2]) rfl ⟨x, true, rfl, ?_, .inr ⟨rfl, ?_, ?_⟩⟩
        · exact ((B2.out.setCell (by exact Nat.le_refl _) _).setCell (by exact Nat.le_refl _) _).setCell (by exact Nat.le_refl _) _
        · exact List.mem_cons_self ..
        · intro z hz
          rw [hr] at hz
          rcases List.mem_cons.mp hz with rfl | hz
          · exact Int.le_refl _
          · cases hz
    · have c1' : ¬ 1 = cap := fun e => c1 e.symm
      have m1 : len - 1 = rest.length := by have := L1.out; omega
      have i1 : (1 : Int) ≤ (len : Int) := by omega
      obtain ⟨n, hn⟩ : ∃ n, rest.length = n := ⟨_, rfl⟩
      rw [hn] at m1
      have HN := Lib.hid hn
      clear hn
      go_wp2
      go_loopw [20] (fun u wr => ∃ (k : Nat) (m : Ev), u = .int .i64 (k : Int) ∧ k ≤ n ∧ Gre wr p q m ∧ Blk wr 43 (w.heap.size + 1) #[.int .i64 m.d, .int .i64 m.i, .int .i64 m.k] ∧ Blk wr 43 w.heap.size #[.int .i64 0, .int .i64 0, .int .i64 0] ∧ Below w.heap.size w wr ∧ (m = x ∨ m ∈ rest.take k) ∧ x.d ≤ m.d ∧ ∀ y ∈ rest.take k, y.d ≤ m.d) (fun u _ => n - (intOf u).toNat)
      case atStart => exact ⟨0, x, rfl, Nat.zero_le _, G2.out, K2.out, Z2.out, B2.out, .inl rfl, Int.le_refl _, fun y hy => by simp at hy⟩
      case round =>
        obtain ⟨k, m, rfl, kn, hg, hk, hz, hb, hm, hx, hy⟩ := hrel
        clear G2 K2 Z2 B2
        have GG := Lib.hid hg
        have K := Lib.hid hk
        have Z := Lib.hid hz
        have B := Lib.hid hb
        have HM := Lib.hid hm
        have HX := Lib.hid hx
        have HY := Lib.hid hy
        clear hg hk hz hb hm hx hy
        by_cases g : k < n
        · have g1 : decide (k < n) = true := decide_eq_true g
          have g2 : decide ((k : Int) < (n : Int)) = true := by simp; omega
          have g3 : (k : Int) < (n : Int) := by omega
          have g4 : (0 : Int) ≤ (k : Int) := by omega
          obtain ⟨y, hy⟩ := getV (es := rest) (i := k) (by rw [HN.out]; exact g)
          have YK := Lib.hid hy
          have hat := T.out _ B.out k y hy
          have y0 := hat.c0
          have y1 := hat.c1
          have y2 := hat.c2
          clear hat hy
          go_wp2_with fail
          obtain ⟨W4, hW4⟩ : ∃ W4, wr.alloc (.cells #[.int .i64 y.d, .int .i64 y.i, .int .i64 y.k] 43) = W4 := ⟨_, rfl⟩
          have D4 := Lib.hid (show Below wr.heap.size wr W4 by rw [← hW4]; exact wbox _ _)
          have K4 := Lib.hid (K.out.below D4.out)
          have Z4 := Lib.hid (Z.out.below D4.out)
          have G4 := Lib.hid (GG.out.below D4.out)
          rw [hW4]
          clear hW4 y0 y1 y2
          refine (gre_ask p q m y _ G4.out).mono ?_
          rintro e w5 ⟨v, rfl, hv, hg, hkp⟩
          have pq := PQ.out
          have K5 := Lib.hid (K4.out.keeps hkp (by omega))
          have Z5 := Lib.hid (Z4.out.keeps hkp (by omega))
          have G5 := Lib.hid hg
          have B5 := Lib.hid (hkp.below (below_next B.out D4.out) (fun k e => by omega) (by have := B.out.size; have := D4.out.size; omega))
          have LV := Lib.hid hv
          clear hv hg hkp
          have k0 := K5.out.cell 0
          have k1 := K5.out.cell 1
          have k2 := K5.out.cell 2
          have f0 := K5.out.free 0
          have f1 := K5.out.free 1
          have f2 := K5.out.free 2
          simp at k0 k1 k2
          go_wp2
          go_roundw
          case rel =>
            refine ⟨k + 1, v, by go_num, by omega, ?_, ?_, ?_, ?_, ?_, ?_, ?_⟩
            · exact ((G5.out.set (by omega) (by omega) 0 _).set (by omega) (by omega) 1 _).set (by omega) (by omega) 2 _
            · have h := ((K5.out.setBE 0 (.int .i64 v.d)).setBE 1 (.int .i64 v.i)).setBE 2 (.int .i64 v.k)
              simpa using h
            · exact Z5.out.keeps ((((Keeps.refl (fun k => k = w.heap.size + 1) w5).set (.inl rfl) 0 _).set (.inl rfl) 1 _).set (.inl rfl) 2 _) (by omega)
            · exact ((B5.out.setCell (by simp) _).setCell (by simp) _).setCell (by simp) _
            · rcases LV.out.1 with e | e
              · exact .inr ((mem_take_succ YK.out).mpr (.inr e))
              · rcases HM.out with h | h
                · exact .inl (e.trans h)
                · exact .inr ((mem_take_succ YK.out).mpr (.inl (e ▸ h)))
            · have := HX.out; have := LV.out.2.2; omega
            · intro z hz
              rcases (mem_take_succ YK.out).mp hz with h | h
              · have := HY.out z h; have := LV.out.2.2; omega
              · rw [h]; exact LV.out.2.1
          case measure => simp [intOf]; omega
        · have g1 : decide (k < n) = false := decide_eq_false g
          have g2 : decide ((k : Int) < (n : Int)) = false := by simp; omega
          have k0 := K.out.cell 0
          have k1 := K.out.cell 1
          have k2 := K.out.cell 2
          have z0 := Z.out.cell 0
          have z1 := Z.out.cell 1
          have z2 := Z.out.cell 2
          have f0 := Z.out.free 0
          have f1 := Z.out.free 1
          have f2 := Z.out.free 2
          simp at k0 k1 k2 z0 z1 z2
          have TK : rest.take k = rest := List.take_of_length_le (by rw [HN.out]; omega)
          rw [TK] at HM HY
          go_wp2
          refine bodyPost_ret (v := .tuple #[.agg #[.int .i64 m.d, .int .i64 m.i, .int .i64 m.k], .bool true]) (by simp [results, Try.results17, go_sem, z0, z1, z2]) rfl ⟨m, true, rfl, ?_, .inr ⟨rfl, ?_, ?_⟩⟩
          · exact ((B.out.setCell (by exact Nat.le_refl _) _).setCell (by exact Nat.le_refl _) _).setCell (by exact Nat.le_refl _) _
          · exact List.mem_cons.mpr HM.out
          · intro z hz
            rcases List.mem_cons.mp hz with rfl | hz
            · exact HX.out
            · exact HY.out z hz
/-- package rule as landed is as P11.1 and P11.2 say -/
theorem ruleOk : RuleOk where
  time := fun E P s some at_ w hM hs _ _ => time_any E P s some at_ w hM hs
  wait := fun E P s some at_ w hM hs h0 h1 => wait_any E P s some at_ w hM hs h0 h1
  free := fun E P s some at_ w hM hs _ _ => free_any E P s some at_ w hM hs
  bound := fun E P w hM => bound_any E P w hM
  latest := fun a len cap es w h _ => latest_any a len cap es w h
end Go.Proofs.Ytidfldngiagpdaa

/-
  Package super: New: contract.
-/
import Derived.Test.YtnlgophgglgneaaSzE
import Derived.Test.YtnlgophgglgneaaSzC
import Derived.Deep.Onto
namespace Go.Proofs.Ytnlgophgglgneaa
open Go.RowKit

theorem Try.infoC : (Try.prog.info? 73).map (fun i => (i.zero, i.size, i.bytes)) = some (some (.agg #[.int .i64 0, .int .i64 0, .int .i64 0, .int .i64 0]), 4, 32) := by kernel_rfl
set_option maxRecDepth 20000 in
set_option maxHeartbeats 4000000 in
theorem snew_no (a : Option Addr) (len cap : Nat) (ps : List (Int × Int)) (t : Int) (w : World) (h : RowP w a len cap ps) (E P er : Int) (hv : wgtV ps = (E, P, er)) (he : er ≠ 0) :
    Calls Try.prog 13 #[.slice a len cap, .int .i64 t] w fun z w' => z = .returned (.pointer none) ∧ Below w.heap.size w w' := by
  have H := Lib.hid h
  have HV := Lib.hid hv
  have t1 : (er != 0) = true := by simp [he]
  clear h hv he
  go_enter Try.func13, Try.ntmps13
  go_wp2_with fail
  refine (sweight_any a len cap ps w H.out E P er HV.out).mono ?_
  rintro e w1 ⟨rfl, hb⟩
  have B := Lib.hid (below_next hb (wbox w1 (.cells #[.int .i64 E, .int .i64 P] 32)))
  clear hb
  go_wp2
  go_ret
  exact ⟨rfl, B.out⟩
theorem ss0_comp {ps : List (Int × Int)} {t : Int} (i : Nat) : compC (ss0 ps t) i = [.int .i64 (eP ps i), .int .i64 (pP ps i), .int .i64 0, .int .i64 (eP ps i)] := by
  have e1 : ixS (ss0 ps t) i = 0 := by show (0 : Int) / eP ps i = 0; exact Int.zero_ediv _
  have e2 : lfS (ss0 ps t) i = eP ps i := by
    unfold lfS
    rw [e1]
    show (0 + 1) * eP ps i - 0 = eP ps i
    omega
  unfold compC
  rw [e1, e2]
  rfl
theorem ss0_take {ps : List (Int × Int)} {t : Int} {i : Nat} (hi : i < ps.length) : (compsC (ss0 ps t)).take (i + 1) = (compsC (ss0 ps t)).take i ++ [[.int .i64 (eP ps i), .int .i64 (pP ps i), .int .i64 0, .int .i64 (eP ps i)]] := by
  rw [List.take_add_one, comps_at (ss0 ps t) (show i < (ss0 ps t).n from hi), ss0_comp]; rfl
/-- what New carries along -/
structure NewW (w W : World) (a : Option Addr) (len cap : Nat) (ps : List (Int × Int)) (t : Int) (g : Nat) (vs : Value) (i : Nat) : Prop where
  parts : RowP W a len cap ps
  box : Blk W 71 g #[vs, .int .i64 t, .int .i64 t, .int .i64 0, .int .i64 0]
  row : W.ownsRow w.heap.size 73 4 vs i ((compsC (ss0 ps t)).take i).flatten
  ne : vs.ownBlock ≠ some g
  bel : Below w.heap.size w W
theorem NewW.below {w W W' : World} {a : Option Addr} {len cap : Nat} {ps : List (Int × Int)} {t : Int} {g i : Nat} {vs : Value} (h : NewW w W a len cap ps t g vs i) (hb : Below W.heap.size W W') : NewW w W' a len cap ps t g vs i := ⟨h.parts.below hb, h.box.below hb, owns_below h.row hb, h.ne, below_next h.bel hb⟩
theorem slice_of_owns {W : World} {base : Nat} {e : TypeId} {size : Nat} {v : Value} {n : Nat} {xs : List Value} (h : W.ownsRow base e size v n xs) : ∃ a cap, v = .slice a n cap := by
  rcases h.2 with ⟨h1, h2⟩ | ⟨g, cap, _, h1, _⟩
  · exact ⟨none, 0, by rw [h1, h2]⟩
  · exact ⟨_, cap, h1⟩
set_option maxRecDepth 20000 in
set_option maxHeartbeats 4000000 in
theorem snew_yes (a : Option Addr) (len cap : Nat) (ps : List (Int × Int)) (t : Int) (w : World) (h : RowP w a len cap ps) (E P : Int) (hv : wgtV ps = (E, P, 0)) (t0 : 0 ≤ t) (t1 : t ≤ 1099511627776) :
    Calls Try.prog 13 #[.slice a len cap, .int .i64 t] w fun z w' => ∃ g gc cp, z = .returned (.pointer (some ⟨g, 0, none⟩)) ∧ SAt w' g gc cp (ss0 ps t) ∧ w.heap.size ≤ g ∧ w.heap.size ≤ gc ∧ Below w.heap.size w w' := by
  have H := Lib.hid h
  have HV := Lib.hid hv
  have HM := Lib.hid (wgt_enough hv).1
  have GS := Lib.hid (goodu_ss0 HM.out t0 t1)
  have LN := Lib.hid h.len
  have ⟨k1, k2⟩ := h.cap_le
  have l1 : 1 ≤ len := by have := HM.out.some_; rw [h.len] at this; exact this
  have l8 : len ≤ 8 := by have := HM.out.few; rw [h.len] at this; exact this
  clear h hv
  have b1 : decide (t < 0) = false := by simp; omega
  have b2 : decide (1099511627776 < t) = false := by simp; omega
  go_enter Try.func13, Try.ntmps13
  go_wp2_with fail
  refine (sweight_any a len cap ps w H.out E P 0 HV.out).mono ?_
  rintro e w1 ⟨rfl, hb⟩
  obtain ⟨W2, hW2⟩ : ∃ W2, w1.alloc (.cells #[.int .i64 E, .int .i64 P] 32) = W2 := ⟨_, rfl⟩
  have B2 := Lib.hid (show Below w.heap.size w W2 by rw [← hW2]; exact below_next hb (wbox w1 _))
  obtain ⟨g, hg⟩ : ∃ g, W2.heap.size = g := ⟨_, rfl⟩
  obtain ⟨W3, hW3⟩ : ∃ W3, W2.alloc (.cells #[.slice none 0 0, .int .i64 t, .int .i64 t, .int .i64 0, .int .i64 0] 71) = W3 := ⟨_, rfl⟩
  have N3 := Lib.hid (show NewW w W3 a len cap ps t g (.slice none 0 0) 0 from ⟨by rw [← hW3]; exact (H.out.below B2.out).below (wbox _ _), by rw [← hW3, ← hg]; exact Blk.new _ _ _, World.ownsRow_nil _ _ _ _, by simp [Value.ownBlock], by rw [← hW3]; exact below_next B2.out (wbox _ _)⟩)
  have GW := Lib.hid (show w.heap.size ≤ g by rw [← hg]; exact B2.out.size)
  clear hb
  go_wp2
  clear hg hW3 hW2 b1 b2
  go_loopw [31] (fun v wr => ∃ (i : Nat) (vs : Value), v = .int .i64 i ∧ i ≤ len ∧ NewW w wr a len cap ps t g vs i) (fun v _ => len - (intOf v).toNat)
  case atStart => exact ⟨0, _, rfl, by omega, N3.out⟩
  case round =>
    obtain ⟨i, vs, rfl, i1, hN⟩ := hrel
    have N := Lib.hid hN
    clear hN
    by_cases go : i < len
    · have b1 : decide (i < len) = true := by simp; omega
      have b2 : decide ((i : Int) < (len : Int)) = true := by simp; omega
      have i0 : 0 ≤ (i : Int) := by omega
      have i2 : (i : Int) < (len : Int) := by omega
      obtain ⟨av, cv, rfl⟩ := slice_of_owns N.out.row
      have TK := Lib.hid (ss0_take (ps := ps) (t := t) (i := i) (by rw [LN.out]; exact go))
      obtain ⟨ba, oa, ea, hx, hy⟩ := N.out.parts.cell go
      subst ea
      obtain ⟨E1, hE⟩ : ∃ E, (ps.getD i (0, 0)).1 = E := ⟨_, rfl⟩
      obtain ⟨P1, hP⟩ : ∃ P, (ps.getD i (0, 0)).2 = P := ⟨_, rfl⟩
      rw [hE] at hx
      rw [hP] at hy
      have EE := Lib.hid (show eP ps i = E1 ∧ pP ps i = P1 from ⟨hE, hP⟩)
      rw [EE.out.1, EE.out.2] at TK
      clear hE hP
      obtain ⟨W4, hW4⟩ : ∃ W4, wr.alloc (.cells #[.int .i64 E1, .int .i64 P1] 62) = W4 := ⟨_, rfl⟩
      have X4 := Lib.hid (show Blk W4 62 wr.heap.size #[.int .i64 E1, .int .i64 P1] by rw [← hW4]; exact Blk.new _ _ _)
      have N4 := Lib.hid (show NewW w W4 (some ⟨ba, oa, none⟩) len cap ps t g (.slice av i cv) i by rw [← hW4]; exact N.out.below (wbox _ _))
      go_upto_region 8 with fail
      clear hW4 hx hy
      have x0 := X4.out.cell 0; have x1 := X4.out.cell 1
      simp at x0 x1
      have c0 := N4.out.box.cell 0
      simp at c0
      have c0a := (N4.out.box.alloc (.cells #[.int .i64 E1, .int .i64 P1, .int .i64 0, .int .i64 E1] 73)).cell 0
      simp at c0a
      have gl := N4.out.box.lt
      obtain ⟨i0', hi0, hz0, hz1, hz2⟩ := info_parts Try.infoC
      go_region_law ((refine step_append_lies _ (by rfl) _ _ _ (by rfl) w.heap.size 73 i0' _ 4 32 Try.underlying69 hi0 hz0 hz1 hz2 rfl (by omega) (.slice av i cv) i ((compsC (ss0 ps t)).take i).flatten (by rfl) ((N4.out.row.alloc _).drew) ⟨W4.heap.size, 0, none⟩ 1 1 [.int .i64 E1, .int .i64 P1, .int .i64 0, .int .i64 E1] (by rfl) (by rfl) (World.news_of_block (cs := #[.int .i64 E1, .int .i64 P1, .int .i64 0, .int .i64 E1]) (t := 73) (fr := (0, 0)) (heap_alloc_new W4 _)) (by simp [Value.oneCell']) (by omega) (by unfold maxLen; omega) (by omega) (by have := N4.out.bel.size; simp; omega) (W4.heap.size + 1) (by simp) ?_; intro b2 cap2 w2 hown2 hgrow2 hor hlt2; have HO2 := Lib.hid hown2; have HG2 := Lib.hid hgrow2; have HOR := Lib.hid hor; have LT2 := Lib.hid hlt2; have X2 := Lib.hid (show Blk w2 71 g #[.slice av i cv, .int .i64 t, .int .i64 t, .int .i64 0, .int .i64 0] from (hgrow2.block g (Nat.lt_of_lt_of_le gl (wbox W4 _).size) (fun e => N4.out.ne e.symm)).trans (N4.out.box.alloc _)); clear hown2 hgrow2 hor hlt2; have c4 : _ = some _ := X2.out.cell 0; have f4 : w2.frozen? ⟨g, 0, none⟩ = false := X2.out.free 0))
      all_goals
        clear x0 x1 c0 c0a c4 f4
        have BX := Lib.hid (show Below w.heap.size w w2 from ((N4.out.bel.alloc N4.out.bel.size _).drew).grown HG2.out (by have := N4.out.bel.size; simp; omega) (fun k hk => (N4.out.row.lt k hk).1))
        have HN := Lib.hid (show b2 ≠ g by
          rcases HOR.out with q | q
          · intro e; subst e; exact N4.out.ne q
          · omega)
        have N5 := Lib.hid (show NewW w (w2.setCell ⟨g, 0, none⟩ (.slice (some ⟨b2, 0, none⟩) (i + 1) cap2)) (some ⟨ba, oa, none⟩) len cap ps t g (.slice (some ⟨b2, 0, none⟩) (i + 1) cap2) (i + 1) from by
          have hb : Below w.heap.size w (w2.setCell ⟨g, 0, none⟩ (.slice (some ⟨b2, 0, none⟩) (i + 1) cap2)) := BX.out.setCell GW.out _
          refine ⟨H.out.below hb, X2.out.set_ 0 _, ?_, by simp [Value.ownBlock, HN.out], hb⟩
          rw [TK.out, List.flatten_append]
          exact owns_keeps (F := fun k => k = g) (by simpa using HO2.out) ((Keeps.refl (fun k => k = g) w2).set (.inl rfl) _ _) (fun x e => by simp [Value.ownBlock] at e; subst e; exact HN.out))
        clear HO2 HG2 HOR LT2 X2 BX
        go_wp2
        go_roundw
        case rel => exact ⟨i + 1, _, by go_num, by omega, N5.out⟩
        case measure => simp [intOf]; omega
    · have b1 : decide (i < len) = false := by simp; omega
      have b2 : decide ((i : Int) < (len : Int)) = false := by simp; omega
      obtain rfl : i = len := by omega
      have RW := Lib.hid N.out.row
      obtain ⟨gc, cp, hv, hgc, _⟩ := N.out.row.form (by omega)
      subst hv
      have EN := Lib.hid (show (ss0 ps t).n = i from LN.out)
      have FIN := Lib.hid (show SAt wr g gc cp (ss0 ps t) from by
        have h1 := N.out.box
        have h2 := N.out.row
        rw [List.take_of_length_le (by rw [comps_len, EN.out]; exact Nat.le_refl _)] at h2
        refine ⟨?_, ?_, fun e => N.out.ne (by simp [Value.ownBlock, e]), GS.out⟩
        · unfold boxS; rw [EN.out]; exact h1
        · rw [EN.out]
          exact h2.mono (Nat.zero_le _))
      go_wp2
      go_ret
      exact ⟨g, gc, cp, rfl, FIN.out, GW.out, hgc, N.out.bel⟩
end Go.Proofs.Ytnlgophgglgneaa

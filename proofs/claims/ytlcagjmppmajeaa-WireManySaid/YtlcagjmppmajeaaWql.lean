/-
  The walk of the law WireMany.
-/
import Derived.Test.YtlcagjmppmajeaaWqj
namespace Go.Proofs.Ytlcagjmppmajeaa
open Go.RowKit

theorem run_make_rowN {P : Program} (t e : TypeId) (i : TypeInfo) (z : Value) (ht : P.underlying t = some (.slice e)) (hi : P.info? e = some i) (hz : i.zero = some z)
    (kl kc : IntKind) (n c : Nat) (hnc : n ≤ c) (hbytes : i.bytes * c ≤ 281474976710656) (h63 : c ≤ 9223372036854775807) (w : World) :
    (Instr.makeSlice t (.int kl (n : Int)) (.int kc (c : Int))).run P w = .ok (.slice (some ⟨w.heap.size, 0, none⟩) n c) (w.alloc (.cells (madeCells z.cells (c * i.size)) e)) := by
  have hb : (i.bytes : Int) * (c : Int) ≤ 281474976710656 := by
    have h : ((i.bytes * c : Nat) : Int) ≤ 281474976710656 := by omega
    rwa [Int.natCast_mul] at h
  have hr := run_make (P := P) w t e i z ht hi hz kl kc n c (by omega) (by omega) hb (by omega)
  simp only [Int.toNat_natCast] at hr
  exact hr
theorem tmod2 (x r : Int) (h : 0 < r) : 0 ≤ (x.tmod r + r).tmod r ∧ (x.tmod r + r).tmod r < r ∧ -r < x.tmod r ∧ x.tmod r < r := by
  have c1 := Int.lt_tmod_of_pos x h
  have c2 := Int.tmod_lt_of_pos x h
  exact ⟨Int.tmod_nonneg r (by omega), Int.tmod_lt_of_pos _ h, by omega, c2⟩
/-- so many ticks, as bytes -/
def ticks : Nat → List UInt8
  | 0 => []
  | m + 1 => 5 :: 1 :: ticks m
theorem ticks_len : ∀ m, (ticks m).length = 2 * m
  | 0 => rfl
  | m + 1 => by rw [ticks, List.length_cons, List.length_cons, ticks_len m]; omega
theorem ticks_snoc : ∀ m, ticks m ++ [5, 1] = ticks (m + 1)
  | 0 => rfl
  | m + 1 => by rw [ticks, List.cons_append, List.cons_append, ticks_snoc m]; rfl
theorem ticks_drop : ∀ i m, i ≤ m → (ticks m).drop (2 * i) = ticks (m - i)
  | 0, m, _ => rfl
  | i + 1, 0, h => by omega
  | i + 1, m + 1, h => by
    rw [show 2 * (i + 1) = 2 * i + 1 + 1 by omega, ticks, List.drop_succ_cons, List.drop_succ_cons, ticks_drop i m (by omega), show m + 1 - (i + 1) = m - i by omega]
theorem tick_first (t : List UInt8) : firstV (5 :: 1 :: t) = some (cb, 2) := by
  have h5 : num 5 = [5] := by rw [num_last (by decide)]; rfl
  have h1 : num 1 = [1] := by rw [num_last (by decide)]; rfl
  have n1 : n5 (5 :: 1 :: t) = (5, 1) := by
    have := n5_num (n := 5) (by decide) (1 :: t)
    rw [h5] at this
    exact this
  have n2 : n5 (1 :: t) = (1, 1) := by
    have := n5_num (n := 1) (by decide) t
    rw [h1] at this
    exact this
  have k1 : firstK (5 :: 1 :: t) = (5, (1 :: t, true)) := by
    unfold firstK nx
    rw [n1]
    rfl
  have x1 : nx (1 :: t, true) 1073741824 = (1, (t, true)) := by
    unfold nx
    rw [n2]
    rfl
  have s1 : firstS (5 :: 1 :: t) = (t, true) := by
    unfold firstS
    rw [k1]
    show stR 5 (1 :: t, true) 1 = _
    show (nx (1 :: t, true) 1073741824).2 = _
    rw [x1]
  unfold firstV
  rw [s1, k1, if_pos ⟨rfl, show (1 : Int) ≤ 5 by decide⟩]
  have v1 : vsR 5 (1 :: t, true) 0 = 1 := by
    show (nx (1 :: t, true) 1073741824).1 = _
    rw [x1]
  have c1 : commandV 5 (vsR 5 (1 :: t, true)) = cb := by
    show (⟨5, 0, 0, vsR 5 (1 :: t, true) 0, 0, 0, 0, false, []⟩ : Cm) = _
    rw [v1]
    rfl
  simp only
  rw [c1]
  simp
  omega
theorem ticks_took {m : Nat} {L : List Cm} {at_ : Nat} (h : Took (ticks m) L at_) : at_ = 2 * L.length := by
  induction h with
  | nil => rfl
  | @snoc pre a k c h ha hf hl ih =>
    rw [ticks_len] at ha
    rw [ih] at ha hf
    rw [ticks_drop _ _ (by omega), show m - pre.length = (m - pre.length - 1) + 1 by omega, ticks, tick_first] at hf
    cases hf
    rw [List.length_append, List.length_singleton, ih]
    omega
theorem ticks_end {m : Nat} {L : List Cm} {at_ : Nat} {er : Int} (h : ReadO (ticks m) L at_ er) (hm : 4096 ≤ m) : L.length = 4096 ∧ at_ = 8192 ∧ er = (if 4096 < m then 15 else 0) := by
  have h1 := ticks_took h.1
  have h2 := h.1.is.few
  rcases h.2 with ⟨q1, q2⟩ | ⟨q1, q2, q3⟩ | ⟨q1, q2, q3, q4⟩
  · rw [ticks_len] at q1
    rw [if_neg (by omega)]
    omega
  · rw [ticks_len] at q1
    rw [if_pos (by omega)]
    omega
  · exfalso
    rw [ticks_len] at q1
    rw [h1, ticks_drop _ _ (by omega), show m - L.length = (m - L.length - 1) + 1 by omega, ticks, tick_first] at q3
    cases q3
/-- append of two bytes to what is owned -/
theorem app_two {w : World} {ops : Array Oper} {rest : List Oper} {o : Oper} {act : Act} {Q : Exit → Act → World → Prop} (hgd : o.guard = none) (s x : Operand)
    (ho : o.op = .call { callee := .builtin .append, args := #[s, x], argTypes := #[30, 30] }) (base : Nat)
    (v : Value) (L : List UInt8) (hs : act.eval s = v) (hown : OB base w v L) (g : Nat) (hx : act.eval x = .slice (some ⟨g, 0, none⟩) 2 2)
    (hg : w.heap[g]? = some (.cells #[.int .u8 5, .int .u8 1] 5 (0, 0))) (hb : base ≤ w.heap.size) (hsm : L.length ≤ 1000000000)
    (h : ∀ v' w', OB base w' v' (L ++ [5, 1]) → w.grownBy w' v.ownBlock → wpList Try.prog ops Q rest (act.put o.dst v') w') : wpList Try.prog ops Q (o :: rest) act w := by
  obtain ⟨i0, hi, hz0, hz1, hz2⟩ := info_parts Try.infoB
  refine wpList_append_lies _ hgd s x _ ho base _ i0 _ 1 1 Try.underlying30 hi hz0 hz1 hz2 rfl (by decide) v _ _ hs hown ⟨g, 0, none⟩ 2 2 [.int .u8 5, .int .u8 1] hx rfl (World.news_of_block (cs := #[.int .u8 5, .int .u8 1]) (t := 5) (fr := (0, 0)) hg) (by simp [Value.oneCell']) (by decide) (by unfold maxLen; omega) (by omega) hb w.heap.size rfl ?_
  intro g' cap w2 ho2 hg2 hl _
  refine h _ w2 ?_ hg2
  unfold OB bys
  rw [List.length_append, List.map_append]
  exact ho2
set_option maxRecDepth 20000 in
set_option maxHeartbeats 8000000 in
theorem wmany_walk (n : Int) (w : World) :
    Calls Try.prog 5 #[.int .i64 n] w fun e w' => e = .returned (.bool true) ∧ Below w.heap.size w w' := by
  obtain ⟨k0, k9, r0, r1⟩ := tmod2 n 10 (by decide)
  have wr1 : IntKind.i64.wrap (n.tmod 10 + 10) = n.tmod 10 + 10 := IntWalk.i64_in _ (by omega)
  obtain ⟨k, hk⟩ := Int.eq_ofNat_of_zero_le k0
  obtain ⟨i0, hi, hz0, hz1, hz2⟩ := info_parts Try.infoB
  have hmk := fun W => run_make_rowN (P := Try.prog) 30 5 i0 _ Try.underlying30 hi hz0 .i64 .i64 0 9000 (by omega) (by rw [hz2]; omega) (by omega) W
  rw [hz1] at hmk
  have HMK := Lib.hid hmk
  clear hmk hi hz0 hz1 hz2
  go_enter Try.func5, Try.ntmps5
  go_wp2_with fail
  refine (awake18_any w).mono ?_
  rintro e w1 ⟨rfl, hb⟩
  have B1 := Lib.hid hb
  clear hb
  go_upto_region 3 with fail
  replace k9 : k < 10 := by omega
  clear hk k0 r0 r1 wr1
  have mk := HMK.out w1
  have O2 := Lib.hid (show OB w.heap.size (w1.alloc (.cells (madeCells (Value.int .u8 0).cells (9000 * 1)) 5)) (.slice (some ⟨w1.heap.size, 0, none⟩) 0 9000) [] from World.ownsRow_made w1 _ 9000 B1.out.size (by unfold maxLen; omega) (by simp [madeCells]))
  obtain ⟨W2, hW2⟩ : ∃ W2, w1.alloc (.cells (madeCells (Value.int .u8 0).cells (9000 * 1)) 5) = W2 := ⟨_, rfl⟩
  have B2 := Lib.hid (show Below w.heap.size w W2 by rw [← hW2]; exact below_next B1.out (wbox _ _))
  rw [hW2] at mk O2
  clear hW2
  simp at mk
  have wk : IntKind.i64.wrap (4096 + (k : Int)) = 4096 + (k : Int) := IntWalk.i64_in _ (by omega)
  go_wp2
  clear mk
  go_loopw [5, 6] (fun v u wr => ∃ i : Nat, u = .int .i64 i ∧ i ≤ 4096 + k ∧ OB w.heap.size wr v (ticks i) ∧ Below w.heap.size w wr) (fun _ u _ => 4096 + k - (intOf u).toNat)
  case atStart => exact ⟨0, rfl, by omega, O2.out, B2.out⟩
  case round =>
    obtain ⟨i, rfl, i1, ho, hb⟩ := hrel
    have O := Lib.hid ho
    have B := Lib.hid hb
    clear ho hb
    have TL := ticks_len i
    by_cases go : i < 4096 + k
    · have b1 : decide ((i : Int) < 4096 + (k : Int)) = true := by simp; omega
      have b1' : decide (i < 4096 + k) = true := by simp; omega
      go_wp2_with (at_builtin; refine app_two rfl _ _ rfl w.heap.size _ (ticks i) rfl (O.out.below (wbox _ _)) wr.heap.size rfl (heap_alloc_new wr _) (Nat.le_trans B.out.size (wbox wr _).size) (by omega) ?_; intro v2 w2 h1 h2; have O3 := Lib.hid h1; have B3 := Lib.hid (show Below w.heap.size w w2 from (B.out.alloc B.out.size _).grown h2 (Nat.le_trans B.out.size (wbox wr _).size) (fun k e => (O.out.lt e).1)); clear h1 h2)
      have O4 := Lib.hid (show OB w.heap.size w2 v2 (ticks (i + 1)) by rw [← ticks_snoc]; exact O3.out)
      go_roundw
      case rel => exact ⟨i + 1, by go_num, by omega, O4.out, B3.out⟩
      case measure => simp [intOf]; omega
    · have b1 : decide ((i : Int) < 4096 + (k : Int)) = false := by simp; omega
      have b1' : decide (i < 4096 + k) = false := by simp; omega
      obtain rfl : i = 4096 + k := by omega
      have hcv := conv_own O.out
      go_wp2_with fail
      refine (wread_any (ticks (4096 + k)) wr (by omega)).mono ?_
      rintro e2 w2 ⟨L, a, cap, at_, er, rfl, hro, hrc, hb⟩
      obtain ⟨e1, e3, e4⟩ := ticks_end hro (by omega)
      rw [List.length_map] at e1
      have B4 := Lib.hid (below_next B.out hb)
      clear hb hrc hro hcv
      subst e3 e4
      rw [e1]
      by_cases q : 0 < k
      · have d1 : decide (0 < (k : Int)) = true := by simp; omega
        have d1' : decide (0 < k) = true := by simp; omega
        rw [if_pos (by omega)]
        clear q
        go_wp2
        go_ret
        exact ⟨rfl, B4.out⟩
      · have d1 : decide (0 < (k : Int)) = false := by simp; omega
        have d1' : decide (0 < k) = false := by simp; omega
        rw [if_neg (by omega)]
        clear q
        go_wp2
        go_ret
        exact ⟨rfl, B4.out⟩
end Go.Proofs.Ytlcagjmppmajeaa

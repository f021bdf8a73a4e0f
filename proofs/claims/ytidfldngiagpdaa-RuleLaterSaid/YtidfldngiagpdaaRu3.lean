/-
  The walk of RuleLater, for a package rule that is as P11.1 and P11.2 say.
-/
import Derived.Test.YtidfldngiagpdaaRu2
import Derived.BigQuiet
import Derived.Deep.CutBlock
namespace Go.Proofs.Ytidfldngiagpdaa
open Go.RowKit

theorem time_later {E P : Int} {s : Sb} {a b : Int} (h : a ≤ b) : timeV E P s true a ≤ timeV E P s true b := by
  unfold timeV
  (repeat' split) <;> first | omega | (exfalso; simp_all; done)
theorem Blk.drewN {W : World} {T : TypeId} {g : Nat} {cs : Array Value} (h : Blk W T g cs) (n : Nat) : Blk (W.drewN n) T g cs := h
theorem below_drewNE {n0 : Nat} {w a : World} (h : Below n0 w a) (n : Nat) : Below n0 w (a.drewN n) := h.trans ⟨rfl, rfl, rfl, Nat.le_refl _, fun _ _ => rfl⟩
theorem Blk.drewN2 {W : World} {T : TypeId} {g : Nat} {cs : Array Value} (h : Blk W T g cs) (n k : Nat) : Blk ((W.drewN n).drewN k) T g cs := h
theorem evs_of_flat {w : World} {a : Option Addr} {len cap : Nat} {rs : List (List Value)} (h : RowF w a len cap 3 rs) (g : ∀ r ∈ rs, Fit [.int .i64, .int .i64, .int .i64] r) : ∃ es, RowV w a len cap es := by
  have : ∃ es : List Ev, rs = es.map Ev.cs := by
    clear h
    induction rs with
    | nil => exact ⟨[], rfl⟩
    | cons r rs ih =>
      obtain ⟨es, he⟩ := ih (fun r' hr => g r' (List.mem_cons_of_mem _ hr))
      have gr := g r (List.mem_cons_self ..)
      obtain ⟨z0, q0, rfl, _, gr⟩ := gr.int
      obtain ⟨z1, q1, rfl, _, gr⟩ := gr.int
      obtain ⟨z2, q2, rfl, _, gr⟩ := gr.int
      have := gr.nil
      subst this
      exact ⟨⟨z0, z1, z2⟩ :: es, by rw [he]; rfl⟩
  obtain ⟨es, rfl⟩ := this
  exact ⟨es, h⟩
theorem last_at {es : List Ev} {e x : Ev} {is : Bool} {i : Nat} (h : LastV es e is) (hx : es[i]? = some x) : is = true ∧ x.d ≤ e.d := by
  have hm := List.mem_of_getElem? hx
  rcases h with ⟨rfl, _⟩ | ⟨h1, _, h3⟩
  · cases hm
  · exact ⟨h1, h3 x hm⟩
theorem last_is {es : List Ev} {e : Ev} {is : Bool} (h : LastV es e is) : is = decide (0 < es.length) ∧ (is = true → e ∈ es) := by
  rcases h with ⟨rfl, _, h⟩ | ⟨h1, h2, _⟩
  · exact ⟨by rw [h]; rfl, fun q => by rw [h] at q; cases q⟩
  · have := List.length_pos_of_mem h2
    exact ⟨by rw [h1]; symm; exact decide_eq_true this, fun _ => h2⟩
set_option maxRecDepth 20000 in
set_option maxHeartbeats 4000000 in
theorem rlater_walk (ok : RuleOk) (qa qb n n1 n2 : Int) (ad : Option Addr) (len cap : Nat) (es0 : List Ev) (w : World) (hL : RowV w ad len cap es0) : Calls Try.prog 7 #[.agg #[.int .i64 qa, .int .i64 qb], .agg #[.int .i64 n, .int .i64 n1, .int .i64 n2], .slice ad len cap] w fun e w' => e = .returned (.bool true) ∧ Below w.heap.size w w' := by
  obtain ⟨kn, hkn⟩ : ∃ k, bits .and .i64 n 549755813887 = k := ⟨_, rfl⟩
  have mkn := mask_le n 549755813887 (by omega) (by omega)
  rw [hkn] at mkn
  obtain ⟨i, hi⟩ : ∃ i, 1 + kn = i := ⟨_, rfl⟩
  have wi : IntKind.i64.wrap (1 + kn) = i := by rw [← hi]; exact IntWalk.i64_in _ (by omega)
  have NI := Lib.hid (show Nth i from ⟨by omega, by omega⟩)
  have I39 := Lib.hid (show 1 ≤ i ∧ i ≤ 549755813887+1 by omega)
  clear mkn hi
  obtain ⟨a, ha⟩ : ∃ k, bits .and .i64 n1 1099511627775 = k := ⟨_, rfl⟩
  have ma := mask_le n1 1099511627775 (by omega) (by omega)
  rw [ha] at ma
  obtain ⟨b, hb⟩ : ∃ k, bits .and .i64 n2 1099511627775 = k := ⟨_, rfl⟩
  have mb := mask_le n2 1099511627775 (by omega) (by omega)
  rw [hb] at mb
  have LL := Lib.hid hL
  have ⟨lc1, lc2⟩ := hL.cap_le
  have lc3 : (len : Int) ≤ (cap : Int) := by omega
  have N3 := Lib.hid (Blk.new w 22 #[Value.int .i64 qa, Value.int .i64 qb])
  clear hL
  have OK := Lib.hid ok
  clear ok
  have Q := Lib.hid (Blk.new w 22 #[Value.int .i64 qa, Value.int .i64 qb])
  have T3 := Lib.hid (Blk.new2 w (Obj.cells #[Value.int .i64 qa, Value.int .i64 qb] 22) 40 #[Value.int .i64 n, Value.int .i64 n1, Value.int .i64 n2])
  clear N3
  go_enter Try.func7, Try.ntmps7
  go_wp2_with fail
  refine (r11awake OK.out _).mono ?_
  rintro e w1 ⟨rfl, hb⟩
  have B := Lib.hid (below_next (wbox2 _ _ _) hb)
  have q0 := ((Q.out.alloc _).below hb).cell 0; have q1 := ((Q.out.alloc _).below hb).cell 1
  have T3 := Lib.hid (T3.out.below hb)
  simp at q0 q1
  clear hb Q
  go_wp2_with fail
  refine (wmade_any qa qb _).mono ?_
  rintro e w2 ⟨E, P, rfl, hM, hb⟩
  have B := Lib.hid (below_next (below_next B.out hb) (wbox w2 (.cells #[.int .i64 E, .int .i64 P] 25)))
  have K := Lib.hid (Blk.new w2 25 #[.int .i64 E, .int .i64 P])
  have HM := Lib.hid hM
  have T3 := Lib.hid ((T3.out.below hb).alloc (Obj.cells #[.int .i64 E, .int .i64 P] 25))
  clear hb hM q0 q1
  obtain ⟨b2, hn2⟩ : ∃ n, w2.heap.size = n := ⟨_, rfl⟩
  rw [hn2] at K
  obtain ⟨b3, hb3⟩ : ∃ n, w.heap.size + 1 = n := ⟨_, rfl⟩
  rw [hb3] at T3
  go_upto_if 24 with fail
  clear hn2 hb3
  go_cut [2] (fun s2 wx => ∃ m : Nat, s2 = .slice ad m cap ∧ m ≤ 12 ∧ m ≤ len ∧ wx = w2.alloc (Obj.cells #[.int .i64 E, .int .i64 P] 25))
  case first =>
    by_cases gt : (12 : Int) < (len : Int)
    · have g1 : decide ((12 : Int) < (len : Int)) = true := decide_eq_true gt
      have g2 : decide (12 < len) = true := decide_eq_true (by omega)
      have g3 : (12 : Int) ≤ (len : Int) := by omega
      have g4 : 12 ≤ len := by omega
      have g5 : (12 : Int) ≤ (cap : Int) := by omega
      have g6 : 12 ≤ cap := by omega
      have g7 : 12 < len := by omega
      go_wp2_with fail
      go_meet
      exact ⟨12, rfl, by omega, by omega, rfl⟩
    · have g1 : decide ((12 : Int) < (len : Int)) = false := decide_eq_false gt
      have g2 : decide (12 < len) = false := decide_eq_false (by omega)
      have g7 : ¬ 12 < len := by omega
      go_wp2_with fail
      go_meet
      exact ⟨len, rfl, by omega, by omega, rfl⟩
  case rest =>
  obtain ⟨m, rfl, m12, ml, hwc⟩ := hcut
  have B := Lib.hid (show Below w.heap.size w wc by rw [hwc]; exact B.out)
  have K := Lib.hid (show Blk wc 25 b2 #[.int .i64 E, .int .i64 P] by rw [hwc]; exact K.out)
  have T3 := Lib.hid (show Blk wc 40 b3 #[Value.int .i64 n, Value.int .i64 n1, Value.int .i64 n2] by rw [hwc]; exact T3.out)
  have RW := Lib.hid (LL.out.take ml)
  obtain ⟨es, hes⟩ : ∃ l, es0.take m = l := ⟨_, rfl⟩
  rw [hes] at RW
  clear hwc hes
  obtain ⟨s, hs⟩ : ∃ s, ofV E P i 0 = s := ⟨_, rfl⟩
  have HS := Lib.hid hs
  have FS := Lib.hid (fit_of HM.out NI.out hs)
  have AB := Lib.hid (show (0 ≤ a ∧ a ≤ 1099511627775) ∧ 0 ≤ b ∧ b ≤ 1099511627775 by omega)
  have TB := Lib.hid (time_behind (E := E) (P := P) (some := true) (at_ := a) FS.out.1)
  have LT := Lib.hid (fun h : a ≤ b => time_later (E := E) (P := P) (s := s) h)
  have TM := Lib.hid (show ∀ c, 0 ≤ c → c ≤ 1099511627775 → timeV E P s true c ≤ 4611686018427387903 from fun c c0 c1 => by have h := FS.out; have h2 := h.1.d1; have h3 := h.1.g1; have h4 := h.1.b1; have h5 := h.1.b0; unfold timeV; (repeat' split) <;> omega)
  clear hs ma mb
  have k0 := K.out.cell 0
  have k1 := K.out.cell 1
  simp at k0 k1
  have t0 := T3.out.cell 0; have t1 := T3.out.cell 1; have t2 := T3.out.cell 2
  simp at t0 t1 t2
  go_wp2_with fail
  refine (ofV_at E P i 0 _ HM.out NI.out (by omega) (by omega) s HS.out).mono ?_
  rintro e w3 ⟨rfl, hb⟩
  have B := Lib.hid (below_next B.out hb)
  have K := Lib.hid (K.out.below hb)
  have T3 := Lib.hid (T3.out.below hb)
  clear hb k0 k1 t0 t1 t2
  go_upto_region 6 with fail
  obtain ⟨n3, hn3⟩ : ∃ n, w3.heap.size = n := ⟨_, rfl⟩
  obtain ⟨W3, hW3⟩ : ∃ W3, w3.alloc (.cells #[.int .i64 s.I, .int .i64 s.R, .int .i64 s.D, .int .i64 s.B, .int .i64 s.G] 28) = W3 := ⟨_, rfl⟩
  have S := Lib.hid (show Blk W3 28 n3 #[.int .i64 s.I, .int .i64 s.R, .int .i64 s.D, .int .i64 s.B, .int .i64 s.G] by rw [← hW3, ← hn3]; exact Blk.new _ _ _)
  have K := Lib.hid (show Blk W3 25 b2 #[.int .i64 E, .int .i64 P] by rw [← hW3]; exact K.out.alloc _)
  have T3 := Lib.hid (show Blk W3 40 b3 #[Value.int .i64 n, Value.int .i64 n1, Value.int .i64 n2] by rw [← hW3]; exact T3.out.alloc _)
  have B := Lib.hid (show Below w.heap.size w W3 by rw [← hW3]; exact below_next B.out (wbox _ _))
  rw [hW3, hn3]
  clear hW3 hn3
  obtain ⟨x, hx⟩ : ∃ x, timeV E P s true a = x := ⟨_, rfl⟩
  obtain ⟨y, hy⟩ : ∃ x, timeV E P s true b = x := ⟨_, rfl⟩
  have HX := Lib.hid hx; have HY := Lib.hid hy
  have XB := Lib.hid (show 0 ≤ x ∧ x ≤ 4611686018427387903 by rw [← hx]; exact ⟨Int.le_trans AB.out.1.1 TB.out.1, TM.out a AB.out.1.1 AB.out.1.2⟩)
  rw [hx] at TB
  have XY := Lib.hid (show a ≤ b → x ≤ y by rw [← hx, ← hy]; exact LT.out)
  clear hx hy LT TM
  have t0 := T3.out.cell 0; have t1 := T3.out.cell 1; have t2 := T3.out.cell 2
  simp at t0 t1 t2
  have k0 := K.out.cell 0
  have k1 := K.out.cell 1
  simp at k0 k1
  have s0 := S.out.cell 0; have s1 := S.out.cell 1; have s2 := S.out.cell 2; have s3 := S.out.cell 3; have s4 := S.out.cell 4
  simp at s0 s1 s2 s3 s4
  go_wp2_with fail
  refine (rtime OK.out (s := s) _ x HM.out FS.out.1 AB.out.1.1 (by have := AB.out; omega) HX.out).mono ?_
  rintro e w4 ⟨rfl, hb⟩
  have B := Lib.hid (below_next B.out hb)
  have K := Lib.hid (K.out.below hb)
  have S := Lib.hid (S.out.below hb)
  have T3 := Lib.hid (T3.out.below hb)
  clear hb
  clear k0 k1 s0 s1 s2 s3 s4 t0 t1 t2
  have k0 := K.out.cell 0
  have k1 := K.out.cell 1
  simp at k0 k1
  have s0 := S.out.cell 0; have s1 := S.out.cell 1; have s2 := S.out.cell 2; have s3 := S.out.cell 3; have s4 := S.out.cell 4
  simp at s0 s1 s2 s3 s4
  go_wp2_with fail
  refine (rtime OK.out (s := s) _ y HM.out FS.out.1 AB.out.2.1 (by have := AB.out; omega) HY.out).mono ?_
  rintro e w5 ⟨rfl, hb⟩
  have B := Lib.hid (below_next B.out hb)
  have K := Lib.hid (K.out.below hb)
  have S := Lib.hid (S.out.below hb)
  have T3 := Lib.hid (T3.out.below hb)
  clear hb
  clear k0 k1 s0 s1 s2 s3 s4
  go_wp2_with fail
  refine (OK.out.latest ad m cap es _ (RW.out.below B.out) m12).mono ?_
  rintro e w6 ⟨ev, is, rfl, hb, hlast⟩
  have B := Lib.hid (below_next B.out hb)
  have K := Lib.hid (K.out.below hb)
  have S := Lib.hid (S.out.below hb)
  have LA := Lib.hid hlast
  rw [show ev.v = .agg #[.int .i64 ev.d, .int .i64 ev.i, .int .i64 ev.k] from rfl]
  clear hb hlast T3
  go_upto_region 11 with fail
  obtain ⟨n6, hn6⟩ : ∃ n, w6.heap.size = n := ⟨_, rfl⟩
  obtain ⟨W6, hW6⟩ : ∃ W6, w6.alloc (.cells #[.int .i64 ev.d, .int .i64 ev.i, .int .i64 ev.k] 43) = W6 := ⟨_, rfl⟩
  have V := Lib.hid (show Blk W6 43 n6 #[.int .i64 ev.d, .int .i64 ev.i, .int .i64 ev.k] by rw [← hW6, ← hn6]; exact Blk.new _ _ _)
  have K := Lib.hid (show Blk W6 25 b2 #[.int .i64 E, .int .i64 P] by rw [← hW6]; exact K.out.alloc _)
  have S := Lib.hid (show Blk W6 28 n3 #[.int .i64 s.I, .int .i64 s.R, .int .i64 s.D, .int .i64 s.B, .int .i64 s.G] by rw [← hW6]; exact S.out.alloc _)
  have B := Lib.hid (show Below w.heap.size w W6 by rw [← hW6]; exact below_next B.out (wbox _ _))
  rw [hW6, hn6]
  clear hW6 hn6
  have LI := Lib.hid (last_is LA.out)
  have LEN := Lib.hid RW.out.len
  go_wp2
  go_loopw [17, 18] (fun f u wr => ∃ (j : Nat) (fb : Bool), u = .int .i64 (j : Int) ∧ f = .bool fb ∧ j ≤ m ∧ (fb = true ↔ is = false ∨ ev ∈ es.take j) ∧ Blk wr 43 n6 #[.int .i64 ev.d, .int .i64 ev.i, .int .i64 ev.k] ∧ Blk wr 25 b2 #[.int .i64 E, .int .i64 P] ∧ Blk wr 28 n3 #[.int .i64 s.I, .int .i64 s.R, .int .i64 s.D, .int .i64 s.B, .int .i64 s.G] ∧ Below w.heap.size w wr) (fun _ u _ => m - (intOf u).toNat)
  case atStart => exact ⟨0, !is, rfl, rfl, Nat.zero_le _, by cases is <;> simp, V.out, K.out, S.out, B.out⟩
  case round =>
    obtain ⟨j, fb, rfl, rfl, jm, hfb, hv, hk, hs, hb⟩ := hrel
    have V := Lib.hid hv; have K := Lib.hid hk; have S := Lib.hid hs; have B := Lib.hid hb; have FB := Lib.hid hfb
    clear hv hk hs hb hfb
    by_cases jl : j < m
    · have d1 : decide (j < m) = true := decide_eq_true jl
      have d2 : decide ((j : Int) < (m : Int)) = true := decide_eq_true (by omega)
      have d3 : (j : Int) < (m : Int) := by omega
      have d4 : 0 ≤ (j : Int) := by omega
      have wj : IntKind.i64.wrap ((j : Int) + 1) = (j : Int) + 1 := IntWalk.i64_in _ (by omega)
      obtain ⟨q, hq⟩ : ∃ q, es[j]? = some q := getV (by rw [LEN.out]; exact jl)
      obtain ⟨ba, oa, rfl, hat⟩ := (RW.out.below B.out).at hq
      have LJ := Lib.hid (last_at LA.out hq)
      have HQ := Lib.hid hq
      have c0 := hat.c0; have c1 := hat.c1; have c2 := hat.c2
      have v0 := V.out.cell 0; have v1 := V.out.cell 1; have v2 := V.out.cell 2
      simp at v0 v1 v2
      have g0 : decide (ev.d < q.d) = false := decide_eq_false (by have := LJ.out.2; omega)
      have NX := Lib.hid (show ∀ f2 : Bool, (f2 = true ↔ fb = true ∨ q = ev) → (f2 = true ↔ is = false ∨ ev ∈ es.take (j + 1)) from fun f2 h => by
        have e1 : es.take (j + 1) = es.take j ++ [q] := by rw [List.take_add_one, HQ.out]; rfl
        rw [h, FB.out, e1, List.mem_append, List.mem_singleton, or_assoc, eq_comm (a := q)])
      clear hq hat jl
      go_upto_region 15 with fail
      go_quiet (fail)
      all_goals
        cases fb with
        | true =>
          go_upto_region 17 with fail
          go_quiet (fail)
          all_goals
            have BN := Lib.hid (NX.out true (by simp))
            go_wp2
            go_roundw
            case rel => exact ⟨j + 1, true, by go_num, rfl, by omega, BN.out, V.out.drewN _, K.out.drewN _, S.out.drewN _, below_drewNE B.out _⟩
            case measure => simp [intOf]; omega
        | false =>
          by_cases h0 : q.d = ev.d
          · by_cases h1 : q.i = ev.i
            · by_cases h2 : q.k = ev.k
              · have BN := Lib.hid (NX.out true (by cases q; cases ev; simp_all))
                have e0 : (q.d == ev.d) = true := by simp [h0]
                have e1 : (q.i == ev.i) = true := by simp [h1]
                have e2 : (q.k == ev.k) = true := by simp [h2]
                clear h0 h1 h2
                go_upto_region 17 with fail
                go_quiet (fail)
                all_goals
                  go_wp2
                  go_roundw
                  case rel => exact ⟨j + 1, true, by go_num, rfl, by omega, BN.out, V.out.drewN _, K.out.drewN _, S.out.drewN _, below_drewNE B.out _⟩
                  case measure => simp [intOf]; omega
              · have BN := Lib.hid (NX.out false (by cases q; cases ev; simp_all))
                have e0 : (q.d == ev.d) = true := by simp [h0]
                have e1 : (q.i == ev.i) = true := by simp [h1]
                have e2 : (q.k == ev.k) = false := by simp [h2]
                clear h0 h1 h2
                go_upto_region 17 with fail
                go_quiet (fail)
                all_goals
                  go_wp2
                  go_roundw
                  case rel => exact ⟨j + 1, false, by go_num, rfl, by omega, BN.out, V.out.drewN _, K.out.drewN _, S.out.drewN _, below_drewNE B.out _⟩
                  case measure => simp [intOf]; omega
            · have BN := Lib.hid (NX.out false (by cases q; cases ev; simp_all))
              have e0 : (q.d == ev.d) = true := by simp [h0]
              have e1 : (q.i == ev.i) = false := by simp [h1]
              clear h0 h1
              go_upto_region 17 with fail
              go_quiet (fail)
              all_goals
                go_wp2
                go_roundw
                case rel => exact ⟨j + 1, false, by go_num, rfl, by omega, BN.out, V.out.drewN _, K.out.drewN _, S.out.drewN _, below_drewNE B.out _⟩
                case measure => simp [intOf]; omega
          · have BN := Lib.hid (NX.out false (by cases q; cases ev; simp_all))
            have e0 : (q.d == ev.d) = false := by simp [h0]
            clear h0
            go_upto_region 17 with fail
            go_quiet (fail)
            all_goals
              go_wp2
              go_roundw
              case rel => exact ⟨j + 1, false, by go_num, rfl, by omega, BN.out, V.out.drewN _, K.out.drewN _, S.out.drewN _, below_drewNE B.out _⟩
              case measure => simp [intOf]; omega
    · have d1 : decide (j < m) = false := decide_eq_false jl
      have d2 : decide ((j : Int) < (m : Int)) = false := decide_eq_false (by omega)
      have ej : es.take j = es := List.take_of_length_le (by rw [LEN.out]; omega)
      have fbt : fb = true := FB.out.mpr (by
        rw [ej]
        cases is with
        | false => exact .inl rfl
        | true => exact .inr (LI.out.2 rfl))
      subst fbt
      have ii : is = decide (0 < m) := by rw [LI.out.1, LEN.out]
      clear LI FB ej LA
      have TT := Lib.hid (show timeV E P s true x = x from TB.out.2.2.1)
      have FIN := Lib.hid XB.out
      have z3 : IntKind.i64.wrap (m : Int) = (m : Int) := IntWalk.i64_in _ (by omega)
      by_cases z : 0 < m
      · have z1 : decide ((0 : Int) < (m : Int)) = true := decide_eq_true (by omega)
        have z2 : decide (0 < m) = true := decide_eq_true z
        rw [z2] at ii
        subst ii
        by_cases gab : b < a
        · have g1 : decide (b < a) = true := decide_eq_true gab
          clear gab
          have k0 := K.out.cell 0
          have k1 := K.out.cell 1
          simp at k0 k1
          have s0 := S.out.cell 0; have s1 := S.out.cell 1; have s2 := S.out.cell 2; have s3 := S.out.cell 3; have s4 := S.out.cell 4
          simp at s0 s1 s2 s3 s4
          go_wp2_with fail
          refine (rtime OK.out (s := s) _ x HM.out FS.out.1 FIN.out.1 FIN.out.2 TT.out).mono ?_
          rintro e w7 ⟨rfl, hb⟩
          have B := Lib.hid (below_next B.out hb)
          clear hb
          go_wp2
          go_ret
          exact ⟨rfl, B.out⟩
        · have g1 : decide (b < a) = false := decide_eq_false gab
          have g2 : decide (x ≤ y) = true := decide_eq_true (XY.out (by omega))
          clear gab
          have k0 := K.out.cell 0
          have k1 := K.out.cell 1
          simp at k0 k1
          have s0 := S.out.cell 0; have s1 := S.out.cell 1; have s2 := S.out.cell 2; have s3 := S.out.cell 3; have s4 := S.out.cell 4
          simp at s0 s1 s2 s3 s4
          go_wp2_with fail
          refine (rtime OK.out (s := s) _ x HM.out FS.out.1 FIN.out.1 FIN.out.2 TT.out).mono ?_
          rintro e w7 ⟨rfl, hb⟩
          have B := Lib.hid (below_next B.out hb)
          clear hb
          go_wp2
          go_ret
          exact ⟨rfl, B.out⟩
      · have z1 : decide ((0 : Int) < (m : Int)) = false := decide_eq_false (by omega)
        have z2 : decide (0 < m) = false := decide_eq_false z
        rw [z2] at ii
        subst ii
        by_cases gab : b < a
        · have g1 : decide (b < a) = true := decide_eq_true gab
          clear gab
          have k0 := K.out.cell 0
          have k1 := K.out.cell 1
          simp at k0 k1
          have s0 := S.out.cell 0; have s1 := S.out.cell 1; have s2 := S.out.cell 2; have s3 := S.out.cell 3; have s4 := S.out.cell 4
          simp at s0 s1 s2 s3 s4
          go_wp2_with fail
          refine (rtime OK.out (s := s) _ x HM.out FS.out.1 FIN.out.1 FIN.out.2 TT.out).mono ?_
          rintro e w7 ⟨rfl, hb⟩
          have B := Lib.hid (below_next B.out hb)
          clear hb
          go_wp2
          go_ret
          exact ⟨rfl, B.out⟩
        · have g1 : decide (b < a) = false := decide_eq_false gab
          have g2 : decide (x ≤ y) = true := decide_eq_true (XY.out (by omega))
          clear gab
          have k0 := K.out.cell 0
          have k1 := K.out.cell 1
          simp at k0 k1
          have s0 := S.out.cell 0; have s1 := S.out.cell 1; have s2 := S.out.cell 2; have s3 := S.out.cell 3; have s4 := S.out.cell 4
          simp at s0 s1 s2 s3 s4
          go_wp2_with fail
          refine (rtime OK.out (s := s) _ x HM.out FS.out.1 FIN.out.1 FIN.out.2 TT.out).mono ?_
          rintro e w7 ⟨rfl, hb⟩
          have B := Lib.hid (below_next B.out hb)
          clear hb
          go_wp2
          go_ret
          exact ⟨rfl, B.out⟩
end Go.Proofs.Ytidfldngiagpdaa

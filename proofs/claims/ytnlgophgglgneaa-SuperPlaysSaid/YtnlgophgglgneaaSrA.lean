/-
  The document's own supertask (regattaref14): periods, Weight: contracts.
  The document's own supertask: Use, New: contracts; what it is in memory.
-/
import Derived.Test.YtnlgophgglgneaaSzE
import Derived.Test.YtnlgophgglgneaaSzG
import Derived.Test.YtnlgophgglgneaaRatA
import Derived.Test.YtnlgophgglgneaaSzC
namespace Go.Proofs.Ytnlgophgglgneaa
open Go.RowKit

theorem app_i64 {w : World} {ops : Array Oper} {rest : List Oper} {o : Oper} {act : Act} {Q : Exit → Act → World → Prop} (hgd : o.guard = none) (s x : Operand)
    (ho : o.op = .call { callee := .builtin .append, args := #[s, x], argTypes := #[76, 76] }) (base : Nat)
    (v : Value) (n : Nat) (ns : List Int) (hs : act.eval s = v) (hown : w.ownsRow base 2 1 v n (ns.map (Value.int .i64))) (g : Nat) (e : Int) (hx : act.eval x = .slice (some ⟨g, 0, none⟩) 1 1)
    (hg : w.heap[g]? = some (.cells #[.int .i64 e] 2 (0, 0))) (hb : base ≤ w.heap.size) (hsm : n ≤ 100000)
    (h : ∀ v' w', w'.ownsRow base 2 1 v' (n + 1) ((ns ++ [e]).map (Value.int .i64)) → w.grownBy w' v.ownBlock → wpList Try.prog ops Q rest (act.put o.dst v') w') : wpList Try.prog ops Q (o :: rest) act w := by
  obtain ⟨i0, hi, hz0, hz1, hz2⟩ := info_parts Try.infoI64
  refine wpList_append_own _ hgd s x _ ho base _ i0 _ 1 8 Try.underlying76 hi hz0 hz1 hz2 rfl (by decide) v _ _ hs hown ⟨g, 0, none⟩ 1 1 [.int .i64 e] hx rfl (World.news_of_block (cs := #[.int .i64 e]) (t := 2) (fr := (0, 0)) hg) (by simp [Value.oneCell']) (by unfold maxLen; omega) (by omega) hb ?_
  intro v2 w2 ho2 hg2 _
  refine h v2 w2 ?_ hg2
  rw [List.map_append]
  exact ho2
theorem snd_take {ps : List (Int × Int)} {i : Nat} (h : i < ps.length) : (ps.take (i + 1)).map Prod.snd = (ps.take i).map Prod.snd ++ [pP ps i] := by
  rw [List.take_add_one, List.getElem?_eq_getElem h, List.map_append]
  unfold pP
  rw [List.getD_eq_getElem?_getD, List.getElem?_eq_getElem h]
  rfl
set_option maxHeartbeats 2000000 in
theorem r14periods_any (a : Option Addr) (len cap : Nat) (ps : List (Int × Int)) (w : World) (h : RowP w a len cap ps) (hl : len ≤ 100) :
    Calls Try.prog 37 #[.slice a len cap] w (Gives .i64 w fun zs => zs = ps.map Prod.snd) := by
  have H := Lib.hid h
  have LN := Lib.hid h.len
  have ⟨k1, k2⟩ := h.cap_le
  clear h
  go_enter Try.func37, Try.ntmps37
  go_wp2
  go_loopw [3, 4] (fun u v wr => ∃ i : Nat, v = .int .i64 i ∧ i ≤ len ∧ wr.ownsRow w.heap.size 2 1 u i (((ps.take i).map Prod.snd).map (Value.int .i64)) ∧ Below w.heap.size w wr) (fun _ v _ => len - (intOf v).toNat)
  case atStart => exact ⟨0, rfl, by omega, World.ownsRow_nil _ _ _ _, Below.refl _ _⟩
  case round =>
    obtain ⟨i, rfl, i1, hO, hB⟩ := hrel
    have O := Lib.hid hO
    have B := Lib.hid hB
    have HR := Lib.hid (H.out.below hB)
    clear hO hB
    by_cases go : i < len
    · have b1 : decide (i < len) = true := by simp; omega
      have b2 : decide ((i : Int) < (len : Int)) = true := by simp; omega
      have i0 : 0 ≤ (i : Int) := by omega
      have i2 : (i : Int) < (len : Int) := by omega
      have TK := Lib.hid (snd_take (ps := ps) (i := i) (by rw [LN.out]; exact go))
      obtain ⟨ba, oa, rfl, _, hy⟩ := HR.out.cell go
      obtain ⟨P1, hP⟩ : ∃ P, (ps.getD i (0, 0)).2 = P := ⟨_, rfl⟩
      rw [hP] at hy
      have PP := Lib.hid (show pP ps i = P1 from hP)
      rw [PP.out] at TK
      clear hP
      obtain ⟨W4, hW4⟩ : ∃ W4, wr.alloc (.cells #[.int .i64 P1] 2) = W4 := ⟨_, rfl⟩
      have N4 := Lib.hid (show W4.heap[wr.heap.size]? = some (.cells #[.int .i64 P1] 2 (0, 0)) by rw [← hW4]; exact heap_alloc_new _ _)
      have O4 := Lib.hid (show W4.ownsRow w.heap.size 2 1 u3 i (((ps.take i).map Prod.snd).map (Value.int .i64)) by rw [← hW4]; exact owns_below O.out (wbox _ _))
      have B4 := Lib.hid (show Below w.heap.size w W4 by rw [← hW4]; exact below_next B.out (wbox _ _))
      go_wp2_with (at_builtin; refine app_i64 rfl _ _ rfl w.heap.size u3 i ((ps.take i).map Prod.snd) rfl O4.out wr.heap.size P1 rfl N4.out B4.out.size (by omega) ?_; intro v2 w8 hown2 hgrow2; have HO2 := Lib.hid hown2; have HG2 := Lib.hid hgrow2; clear hown2 hgrow2)
      go_roundw
      case rel => exact ⟨i + 1, by go_num, by omega, by rw [TK.out]; exact HO2.out, B4.out.grown HG2.out B4.out.size (fun g hg => (O4.out.lt g hg).1)⟩
      case measure => simp [intOf]; omega
    · have b1 : decide (i < len) = false := by simp; omega
      have b2 : decide ((i : Int) < (len : Int)) = false := by simp; omega
      obtain rfl : i = len := by omega
      obtain ⟨a', c', hv, hr, hf⟩ := row_of_owns O.out
      subst hv
      have ET := Lib.hid (show (ps.take i).map Prod.snd = ps.map Prod.snd by rw [List.take_of_length_le (by rw [LN.out]; omega)])
      have RR := Lib.hid hr; have FF := Lib.hid hf
      clear hr hf
      go_wp2
      go_ret
      exact ⟨_, _, _, _, rfl, by rw [← ET.out]; exact RR.out, rfl, B.out, FF.out⟩
theorem Row.row0 {W : World} {a : Option Addr} {n cap : Nat} {zs : List Int} (h : Row .i64 W a n cap zs) (hn : 0 < n) : ∃ b off, a = some ⟨b, off, none⟩ ∧ ∀ i, i < n → W.cell? ⟨b, off + i, none⟩ = some (.int .i64 (zs.getD i 0)) := by
  obtain ⟨b, off, e, _⟩ := h.cell hn
  refine ⟨b, off, e, fun i hi => ?_⟩
  obtain ⟨b', off', e', hc⟩ := h.cell hi
  rw [e] at e'
  simp only [Option.some.injEq, Addr.mk.injEq, and_true] at e'
  obtain ⟨rfl, rfl⟩ := e'
  exact hc
/-- the least of the first i, the first one at least -/
def lsrV (ps : List (Int × Int)) : Nat → Int | 0 => pP ps 0 | i + 1 => lstV ps i
theorem lsr_step (ps : List (Int × Int)) (i : Nat) : lsrV ps (i + 1) = min (lsrV ps i) (pP ps i) := by
  cases i with
  | zero => show pP ps 0 = min (pP ps 0) (pP ps 0); omega
  | succ i => rfl
theorem lsr_end {ps : List (Int × Int)} (h : 1 ≤ ps.length) : lsrV ps ps.length = leastV ps := by
  unfold leastV
  obtain ⟨n, hn⟩ : ∃ n, ps.length = n + 1 := ⟨ps.length - 1, by omega⟩
  rw [hn]; rfl
theorem lsr_pos {ps : List (Int × Int)} (h : MayP ps) {i : Nat} (hi : i ≤ ps.length) : 1 ≤ lsrV ps i ∧ lsrV ps i ≤ 1048576 := by
  have key : ∀ j, j < ps.length → 1 ≤ pP ps j ∧ pP ps j ≤ 1048576 := fun j hj => by
    obtain ⟨m1, m2, m3⟩ := MayP.at_ h.each hj
    omega
  cases i with
  | zero => exact key 0 (by have := h.some_; omega)
  | succ i =>
    obtain ⟨k, hk, ek⟩ := lst_is ps i
    show 1 ≤ lstV ps i ∧ lstV ps i ≤ 1048576
    rw [ek]
    exact key k (by omega)
set_option maxRecDepth 20000 in
set_option maxHeartbeats 4000000 in
theorem r14weight_no (a : Option Addr) (len cap : Nat) (ps : List (Int × Int)) (w : World) (h : RowP w a len cap ps) (hn : ¬ MayP ps) :
    Calls Try.prog 14 #[.slice a len cap] w fun z w' => z = .returned (.tuple #[.agg #[.int .i64 0, .int .i64 0], .int .i64 1]) ∧ Below w.heap.size w w' := by
  obtain ⟨W1, hW1⟩ : ∃ W1, w.alloc (.cells #[.int .i64 0, .int .i64 0] 32) = W1 := ⟨_, rfl⟩
  have B1 := Lib.hid (show Below w.heap.size w W1 by rw [← hW1]; exact wbox _ _)
  have R1 := Lib.hid (show Blk W1 32 w.heap.size #[.int .i64 0, .int .i64 0] by rw [← hW1]; exact Blk.new w _ _)
  have H1 := Lib.hid (h.below B1.out)
  have HN := Lib.hid hn
  clear h hn
  go_enter Try.func14, Try.ntmps14
  go_wp2_with fail
  clear hW1
  refine (r14check_any a len cap ps W1 H1.out false ⟨(fun h => by cases h), fun h => absurd h HN.out⟩).mono ?_
  rintro e w2 ⟨rfl, hb⟩
  have B2 := Lib.hid (below_next B1.out hb)
  have R2 := Lib.hid (R1.out.below hb)
  clear hb
  have x0 := R2.out.cell 0; have x1 := R2.out.cell 1
  simp at x0 x1
  have fz : ∀ o, w2.frozen? ⟨w.heap.size, o, none⟩ = false := fun o => R2.out.free o
  go_wp2
  exact bodyPost_ret (v := .tuple #[.agg #[.int .i64 0, .int .i64 0], .int .i64 1]) (by simp [results, Try.results14, go_sem, x0, x1]) rfl ⟨rfl, (B2.out.setCell (Nat.le_refl _) _).setCell (Nat.le_refl _) _⟩
set_option maxRecDepth 20000 in
set_option maxHeartbeats 4000000 in
theorem r14weight_yes (a : Option Addr) (len cap : Nat) (ps : List (Int × Int)) (w : World) (h : RowP w a len cap ps) (hM : MayP ps) (E P er : Int) (hv : wgtV ps = (E, P, er)) :
    Calls Try.prog 14 #[.slice a len cap] w fun z w' => z = .returned (.tuple #[.agg #[.int .i64 E, .int .i64 P], .int .i64 er]) ∧ Below w.heap.size w w' := by
  obtain ⟨W1, hW1⟩ : ∃ W1, w.alloc (.cells #[.int .i64 0, .int .i64 0] 32) = W1 := ⟨_, rfl⟩
  have B1 := Lib.hid (show Below w.heap.size w W1 by rw [← hW1]; exact wbox _ _)
  have R1 := Lib.hid (show Blk W1 32 w.heap.size #[.int .i64 0, .int .i64 0] by rw [← hW1]; exact Blk.new w _ _)
  have H1 := Lib.hid (h.below B1.out)
  have LN := Lib.hid h.len
  have ⟨k1, k2⟩ := h.cap_le
  have HM := Lib.hid hM
  have HV := Lib.hid hv
  have l1 : 1 ≤ len := by have := hM.some_; rw [h.len] at this; exact this
  have l8 : len ≤ 8 := by have := hM.few; rw [h.len] at this; exact this
  clear h hM hv
  go_enter Try.func14, Try.ntmps14
  go_wp2_with fail
  clear hW1
  refine (r14check_any a len cap ps W1 H1.out true ⟨(fun _ => HM.out), (fun _ => rfl)⟩).mono ?_
  rintro e w2 ⟨rfl, hb⟩
  have B2 := Lib.hid (below_next B1.out hb)
  have R2 := Lib.hid (R1.out.below hb)
  have H2 := Lib.hid (H1.out.below hb)
  clear hb B1 R1 H1
  go_wp2_with fail
  refine (r14periods_any a len cap ps w2 H2.out (by omega)).mono ?_
  rintro e w3 ⟨ap, lp, cp, zs, rfl, hr, rfl, hb, hf⟩
  have lz : lp = len := by rw [← hr.len, List.length_map, LN.out]
  subst lz
  have B3 := Lib.hid (below_next B2.out hb)
  have R3 := Lib.hid (R2.out.below hb)
  have H3 := Lib.hid (H2.out.below hb)
  obtain ⟨bp, op, rfl, hcs⟩ := hr.row0 (by omega)
  have LC := Lib.hid (Ex.ref_lcm_row (ps.map Prod.snd) bp op cp w3 (fun z hz => by
      obtain ⟨q, hq, rfl⟩ := List.mem_map.mp hz
      have := HM.out.each q hq
      have m1 := this.1; have m2 := this.2.1; have m3 := this.2.2
      exact ⟨by omega, by omega⟩) (by rw [List.length_map, LN.out]; omega) (fun j hj => hcs j (by rw [List.length_map, LN.out] at hj; exact hj)))
  rw [List.length_map, LN.out] at LC
  have LV := Lib.hid (show (Ex.rowL 1 (ps.map Prod.snd)).1 = lcmV ps ∧ (Ex.rowL 1 (ps.map Prod.snd)).2 = lcmE ps from ⟨rfl, rfl⟩)
  rw [LV.out.1, LV.out.2] at LC
  have LF := Lib.hid (fun (e : lcmE ps = 0) => lcm_facts e)
  have UB := Lib.hid (fun (q : Int) (h0 : 0 ≤ q) (j : Nat) (hj : j ≤ ps.length) => use_bd HM.out.each h0 j hj)
  have UT := Lib.hid (fun (q : Int) (h0 : 0 ≤ q) (j : Nat) (hj : j < ps.length) => use_term HM.out.each h0 hj)
  have US := Lib.hid (fun (q : Int) (j : Nat) => use_succ (ps := ps) (q := q) (i := j))
  have W16 := Lib.hid (fun (g : lcmE ps ≠ 0 ∨ 1048576 < lcmV ps) => wgt_over HM.out g)
  have W18 := Lib.hid (fun (g : ¬ (lcmE ps ≠ 0 ∨ 1048576 < lcmV ps)) (k : lcmV ps < useV ps (lcmV ps) ps.length) => wgt_quota HM.out g k)
  have WOK := Lib.hid (fun (g : ¬ (lcmE ps ≠ 0 ∨ 1048576 < lcmV ps)) (k : ¬ lcmV ps < useV ps (lcmV ps) ps.length) => wgt_ok HM.out g k)
  obtain ⟨Q, hQ⟩ : ∃ Q, lcmV ps = Q := ⟨_, rfl⟩
  obtain ⟨qe, hqe⟩ : ∃ q, lcmE ps = q := ⟨_, rfl⟩
  rw [hQ] at LC LF W16 W18 WOK
  rw [hqe] at LC LF W16 W18 WOK
  clear hQ hqe LV hr hb hf hcs B2 R2 H2
  go_wp2_with fail
  refine LC.out.mono ?_
  rintro z w5 ⟨rfl, nn, rfl⟩
  have B5 := Lib.hid (below_drews B3.out nn)
  have R5 := Lib.hid (show Blk (w3.drewN nn) 32 w.heap.size #[.int .i64 0, .int .i64 0] from R3.out)
  have H5 := Lib.hid (H3.out.below (below_drews (Below.refl _ _) nn))
  obtain ⟨W5, hW5⟩ : ∃ W5, w3.drewN nn = W5 := ⟨_, rfl⟩
  rw [hW5] at B5 R5 H5 ⊢
  clear hW5 LC B3 R3 H3
  have x0 := R5.out.cell 0; have x1 := R5.out.cell 1
  simp at x0 x1
  have fz : ∀ o, W5.frozen? ⟨w.heap.size, o, none⟩ = false := fun o => R5.out.free o
  by_cases g1 : qe = 0
  · have t1 : (qe != 0) = false := by simp [g1]
    by_cases g2 : 1048576 < Q
    · have t2 : decide (1048576 < Q) = true := by simp; omega
      have VV := Lib.hid (HV.out.symm.trans (W16.out (.inr g2)))
      clear g1 g2
      go_wp2
      have ⟨v1, v2, v3⟩ : E = 0 ∧ P = 0 ∧ er = 16 := by have := VV.out; simpa using this
      subst v1 v2 v3
      exact bodyPost_ret (v := .tuple #[.agg #[.int .i64 0, .int .i64 0], .int .i64 16]) (by simp [results, Try.results14, go_sem, x0, x1]) rfl ⟨rfl, (B5.out.setCell (Nat.le_refl _) _).setCell (Nat.le_refl _) _⟩
    · have t2 : decide (1048576 < Q) = false := by simp; omega
      have h3 : Q ≤ 1048576 := by omega
      have NO := Lib.hid (show ¬ (qe ≠ 0 ∨ 1048576 < Q) from fun h => by rcases h with h | h; exact h g1; exact g2 h)
      have ⟨D, q0⟩ := LF.out g1
      clear D g1 g2
      have PZ := Lib.hid (lsr_pos HM.out (i := 0) (by omega))
      obtain ⟨ba, oa, ea, _, hy0⟩ := H5.out.cell (i := 0) (by omega)
      subst ea
      simp only [Nat.zero_mul, Nat.add_zero] at hy0
      have LZ := Lib.hid (show (ps.getD 0 (0, 0)).2 = lsrV ps 0 from rfl)
      rw [LZ.out] at hy0
      obtain ⟨L0, hL0⟩ : ∃ L0, lsrV ps 0 = L0 := ⟨_, rfl⟩
      have HL0 := Lib.hid hL0
      rw [hL0] at hy0
      clear hL0
      have j1 : (0 : Int) < (lp : Int) := by omega
      have j2 : 0 < lp := by omega
      have CE := Lib.hid (fun (i : Nat) (hi : i < lp) (W : World) (hb : RowP W (some ⟨ba, oa, none⟩) lp cap ps) => show W.cell? ⟨ba, oa + i * 2, none⟩ = some (.int .i64 (eP ps i)) ∧ W.cell? ⟨ba, oa + i * 2 + 1, none⟩ = some (.int .i64 (pP ps i)) from by
        obtain ⟨b', o', e, h1, h2⟩ := hb.cell hi
        simp only [Option.some.injEq, Addr.mk.injEq, and_true] at e
        obtain ⟨rfl, rfl⟩ := e
        exact ⟨h1, h2⟩)
      go_wp2
      clear t1 t2 x0 x1 fz hy0
      go_loopw [7, 8, 9] (fun u q v wr => ∃ j : Nat, v = .int .i64 j ∧ j ≤ lp ∧ u = .int .i64 (useV ps Q j) ∧ q = .int .i64 (lsrV ps j) ∧ Below W5.heap.size W5 wr) (fun _ _ v _ => lp - (intOf v).toNat)
      case atStart => exact ⟨0, rfl, by omega, rfl, by rw [HL0.out], Below.refl _ _⟩
      case round =>
        obtain ⟨j, rfl, i1, rfl, rfl, hB⟩ := hrel
        have B := Lib.hid hB
        have HR := Lib.hid (H5.out.below hB)
        have BW := Lib.hid (show Below w.heap.size w wr from B5.out.trans (hB.mono B5.out.size))
        have RR := Lib.hid (R5.out.below hB)
        clear hB
        by_cases go : j < lp
        · have b1 : decide (j < lp) = true := by simp; omega
          have b2 : decide ((j : Int) < (lp : Int)) = true := by simp; omega
          have i0 : 0 ≤ (j : Int) := by omega
          have i2 : (j : Int) < (lp : Int) := by omega
          have ⟨u1, u2⟩ := UB.out Q (by omega) j (by rw [LN.out]; omega)
          have ⟨u3, u4, u5, u6⟩ := UT.out Q (by omega) j (by rw [LN.out]; exact go)
          have SU := Lib.hid (US.out Q j)
          have SL := Lib.hid (lsr_step ps j)
          have P0 := Lib.hid (MayP.at_ HM.out.each (i := j) (by rw [LN.out]; exact go))
          have ⟨hx, hy⟩ := CE.out j go wr HR.out
          obtain ⟨E1, hE⟩ : ∃ E, eP ps j = E := ⟨_, rfl⟩
          obtain ⟨P1, hP⟩ : ∃ P, pP ps j = P := ⟨_, rfl⟩
          rw [hE] at hx
          rw [hP] at hy SL
          rw [hE, hP] at u5 u6 SU P0
          rw [hP] at u3 u4
          have p0 : 1 ≤ P1 := by have m1 := P0.out.1; have m2 := P0.out.2.1; omega
          have d1 : ¬ P1 = 0 := by omega
          have d2 : Q.tdiv P1 = Q / P1 := Int.tdiv_eq_ediv_of_nonneg (by omega)
          obtain ⟨D, hD⟩ : ∃ D, Q / P1 = D := ⟨_, rfl⟩
          rw [hD] at u3 u4 u5 u6 SU d2
          obtain ⟨N, hN⟩ : ∃ N, E1 * D = N := ⟨_, rfl⟩
          rw [hN] at u5 u6 SU
          obtain ⟨U, hU⟩ : ∃ U, useV ps Q j = U := ⟨_, rfl⟩
          rw [hU] at u1 u2 SU ⊢
          obtain ⟨Lj, hLj⟩ : ∃ Lj, lsrV ps j = Lj := ⟨_, rfl⟩
          rw [hLj] at SL ⊢
          have u7 : U ≤ 8388608 := by
            have h1 : (j : Int) * Q ≤ 8 * Q := Int.mul_le_mul_of_nonneg_right (by omega) (by omega)
            omega
          have w1 : IntKind.i64.wrap D = D := IntWalk.i64_in _ (by omega)
          have w2 : IntKind.i64.wrap (E1 * D) = N := by rw [hN]; exact IntWalk.i64_in _ (by omega)
          have w3 : IntKind.i64.wrap (U + N) = U + N := IntWalk.i64_in _ (by omega)
          clear hE hP hD hN hU hLj u2
          go_upto_region 12 with fail
          go_quiet (fail)
          all_goals
            clear w1 w2 w3 d2
            by_cases hm : P1 < Lj
            · have t1 : decide (P1 < Lj) = true := by simp; omega
              have M := Lib.hid (show min Lj P1 = P1 by omega)
              clear hm
              go_wp2
              go_roundw
              case rel => exact ⟨j + 1, by go_num, by omega, by rw [SU.out], by rw [SL.out, M.out], below_drews B.out _⟩
              case measure => simp [intOf]; omega
            · have t1 : decide (P1 < Lj) = false := by simp; omega
              have M := Lib.hid (show min Lj P1 = Lj by omega)
              clear hm
              go_wp2
              go_roundw
              case rel => exact ⟨j + 1, by go_num, by omega, by rw [SU.out], by rw [SL.out, M.out], below_drews B.out _⟩
              case measure => simp [intOf]; omega
        · have b1 : decide (j < lp) = false := by simp; omega
          have b2 : decide ((j : Int) < (lp : Int)) = false := by simp; omega
          obtain rfl : j = lp := by omega
          have EJ := Lib.hid (show useV ps Q j = useV ps Q ps.length ∧ lsrV ps j = leastV ps by rw [← LN.out]; exact ⟨rfl, lsr_end (by rw [LN.out]; omega)⟩)
          have UB2 := UB.out Q (by omega) j (by rw [LN.out]; omega)
          have LP := lsr_pos HM.out (i := j) (by rw [LN.out]; omega)
          rw [EJ.out.1] at UB2 ⊢
          rw [EJ.out.2] at LP ⊢
          obtain ⟨U, hU⟩ : ∃ U, useV ps Q ps.length = U := ⟨_, rfl⟩
          rw [hU] at W18 WOK UB2 ⊢
          obtain ⟨Ls, hL⟩ : ∃ Ls, leastV ps = Ls := ⟨_, rfl⟩
          rw [hL] at LP WOK ⊢
          clear hU EJ hL
          obtain ⟨u1, u2⟩ := UB2
          obtain ⟨L1, L2⟩ := LP
          have u7 : U ≤ 8388608 := by
            have h1 : (j : Int) * Q ≤ 8 * Q := Int.mul_le_mul_of_nonneg_right (by omega) (by omega)
            omega
          clear u2
          have x0 := RR.out.cell 0; have x1 := RR.out.cell 1
          simp at x0 x1
          have fz : ∀ o, wr.frozen? ⟨w.heap.size, o, none⟩ = false := fun o => RR.out.free o
          by_cases g3 : Q < U
          · have t3 : decide (Q < U) = true := by simp; omega
            have VV := Lib.hid (HV.out.symm.trans (W18.out NO.out g3))
            clear g3
            go_wp2
            have ⟨v1, v2, v3⟩ : E = 0 ∧ P = 0 ∧ er = 18 := by have := VV.out; simpa using this
            subst v1 v2 v3
            exact bodyPost_ret (v := .tuple #[.agg #[.int .i64 0, .int .i64 0], .int .i64 18]) (by simp [results, Try.results14, go_sem, x0, x1]) rfl ⟨rfl, (BW.out.setCell (Nat.le_refl _) _).setCell (Nat.le_refl _) _⟩
          · have t3 : decide (Q < U) = false := by simp; omega
            have VV := Lib.hid (HV.out.symm.trans (WOK.out NO.out (by omega)))
            clear g3
            have d1 : ¬ Ls = 0 := by omega
            have d2 : Q.tdiv Ls = Q / Ls := Int.tdiv_eq_ediv_of_nonneg (by omega)
            have d3 : 0 ≤ Q / Ls := Int.ediv_nonneg (by omega) (by omega)
            have d4 := Int.ediv_le_self Ls (show 0 ≤ Q by omega)
            obtain ⟨D, hD⟩ : ∃ D, Q / Ls = D := ⟨_, rfl⟩
            rw [hD] at d2 d3 d4 VV
            clear hD
            by_cases g4 : Q < U + D
            · have t4 : decide (Q < U + D) = true := by simp; omega
              have MN := Lib.hid (show min (U + D) Q = Q by omega)
              rw [MN.out] at VV
              clear g4
              go_wp2
              have ⟨v1, v2, v3⟩ : E = Q ∧ P = Q ∧ er = 0 := by have := VV.out; simpa using this
              subst v1 v3
              rw [v2]
              exact bodyPost_ret (v := .tuple #[.agg #[.int .i64 E, .int .i64 E], .int .i64 0]) (by simp [results, Try.results14, go_sem, x0, x1]) rfl ⟨rfl, (BW.out.setCell (Nat.le_refl _) _).setCell (Nat.le_refl _) _⟩
            · have t4 : decide (Q < U + D) = false := by simp; omega
              have MN := Lib.hid (show min (U + D) Q = U + D by omega)
              rw [MN.out] at VV
              clear g4
              go_wp2
              have ⟨v1, v2, v3⟩ : E = U + D ∧ P = Q ∧ er = 0 := by have := VV.out; simpa using this
              subst v1 v2 v3
              exact bodyPost_ret (v := .tuple #[.agg #[.int .i64 (U + D), .int .i64 P], .int .i64 0]) (by simp [results, Try.results14, go_sem, x0, x1]) rfl ⟨rfl, (BW.out.setCell (Nat.le_refl _) _).setCell (Nat.le_refl _) _⟩
  · have t1 : (qe != 0) = true := by simp [g1]
    have VV := Lib.hid (HV.out.symm.trans (W16.out (.inl g1)))
    clear g1
    go_wp2
    have ⟨v1, v2, v3⟩ : E = 0 ∧ P = 0 ∧ er = 16 := by have := VV.out; simpa using this
    subst v1 v2 v3
    exact bodyPost_ret (v := .tuple #[.agg #[.int .i64 0, .int .i64 0], .int .i64 16]) (by simp [results, Try.results14, go_sem, x0, x1]) rfl ⟨rfl, (B5.out.setCell (Nat.le_refl _) _).setCell (Nat.le_refl _) _⟩
theorem r14weight_any (a : Option Addr) (len cap : Nat) (ps : List (Int × Int)) (w : World) (h : RowP w a len cap ps) (E P er : Int) (hv : wgtV ps = (E, P, er)) :
    Calls Try.prog 14 #[.slice a len cap] w fun z w' => z = .returned (.tuple #[.agg #[.int .i64 E, .int .i64 P], .int .i64 er]) ∧ Below w.heap.size w w' := by
  by_cases hM : MayP ps
  · exact r14weight_yes a len cap ps w h hM E P er hv
  · rw [wgt_arg hM] at hv
    simp only [Prod.mk.injEq] at hv
    obtain ⟨rfl, rfl, rfl⟩ := hv
    exact r14weight_no a len cap ps w h hM
end Go.Proofs.Ytnlgophgglgneaa
namespace Go.Proofs.Ytnlgophgglgneaa
open Go.RowKit

theorem okW_may {ps : List (Int × Int)} (h : MayP ps) : ∀ p ∈ ps, OkW p := fun p hp => by
  obtain ⟨h1, h2, h3⟩ := h.each p hp
  exact ⟨by omega, by omega, by omega, by omega⟩
def GivesV (w : World) (ps : List (Int × Int)) (e : Ending) (w' : World) : Prop := ∃ v, e = .returned v ∧ Rat w' 0 20 v (useR ps).1 (useR ps).2 ∧ Below w.heap.size w w'
theorem take_pair {ps : List (Int × Int)} {i : Nat} (h : i < ps.length) : ps.take (i + 1) = ps.take i ++ [(eP ps i, pP ps i)] := by
  rw [List.take_add_one, List.getElem?_eq_getElem h]
  unfold eP pP
  rw [List.getD_eq_getElem?_getD, List.getElem?_eq_getElem h]
  rfl
set_option maxRecDepth 20000 in
set_option maxHeartbeats 4000000 in
theorem r14use_any (a : Option Addr) (len cap : Nat) (ps : List (Int × Int)) (w : World) (h : RowP w a len cap ps) :
    Calls Try.prog 27 #[.slice a len cap] w (GivesV w ps) := by
  obtain ⟨i00, hi, hz0, hz1, hz2⟩ := info_parts Try.infoW
  obtain ⟨W1, hW1⟩ : ∃ W1, w.alloc (.cells #[.slice none 0 0, .slice none 0 0] 58) = W1 := ⟨_, rfl⟩
  have B1 := Lib.hid (show Below w.heap.size w W1 by rw [← hW1]; exact wbox _ _)
  have R1 := Lib.hid (show Blk W1 58 w.heap.size #[.slice none 0 0, .slice none 0 0] by rw [← hW1]; exact Blk.new w _ _)
  have H1 := Lib.hid (h.below B1.out)
  have LN := Lib.hid h.len
  have ⟨k1, k2⟩ := h.cap_le
  by_cases hM : MayP ps
  · have HM := Lib.hid hM
    have l1 : 1 ≤ len := by have := hM.some_; rw [h.len] at this; exact this
    have l8 : len ≤ 8 := by have := hM.few; rw [h.len] at this; exact this
    have UR := Lib.hid (show useR ps = sumR ps from if_pos hM)
    clear h hM
    go_enter Try.func27, Try.ntmps27
    go_wp2_with fail
    clear hW1
    refine (r14check_any a len cap ps W1 H1.out true ⟨(fun _ => HM.out), (fun _ => rfl)⟩).mono ?_
    rintro e w2 ⟨rfl, hb⟩
    have B2 := Lib.hid (below_next B1.out hb)
    have R2 := Lib.hid (R1.out.below hb)
    have H2 := Lib.hid (H1.out.below hb)
    clear hb B1 R1 H1
    have zw : w.heap.size < w2.heap.size := R2.out.lt
    go_wp2
    go_loopw [4, 5] (fun u v wr => ∃ i : Nat, v = .int .i64 i ∧ i ≤ len ∧ wr.ownsRow w2.heap.size 32 2 u i (cellsW (ps.take i)) ∧ Below w2.heap.size w2 wr) (fun _ v _ => len - (intOf v).toNat)
    case atStart => exact ⟨0, rfl, by omega, World.ownsRow_nil _ _ _ _, Below.refl _ _⟩
    case round =>
      obtain ⟨i, rfl, i1, hO, hB⟩ := hrel
      have HO := Lib.hid hO
      have HW := Lib.hid hB
      have hsz := hB.size
      have HR := Lib.hid (H2.out.below hB)
      clear hO hB
      by_cases go : i < len
      · have b1 : decide (i < len) = true := by simp; omega
        have b2 : decide ((i : Int) < (len : Int)) = true := by simp; omega
        have i0 : 0 ≤ (i : Int) := by omega
        have i2 : (i : Int) < (len : Int) := by omega
        have TK := Lib.hid (take_pair (ps := ps) (i := i) (by rw [LN.out]; exact go))
        obtain ⟨ba, oa, rfl, hx, hy⟩ := HR.out.cell go
        obtain ⟨E1, hE⟩ : ∃ E, (ps.getD i (0, 0)).1 = E := ⟨_, rfl⟩
        obtain ⟨P1, hP⟩ : ∃ P, (ps.getD i (0, 0)).2 = P := ⟨_, rfl⟩
        rw [hE] at hx
        rw [hP] at hy
        have EE := Lib.hid (show eP ps i = E1 ∧ pP ps i = P1 from ⟨hE, hP⟩)
        rw [EE.out.1, EE.out.2] at TK
        clear hE hP
        have HL := Lib.hid (show ba < w2.heap.size by
          obtain ⟨b', o', e', hc, _⟩ := H2.out.cell go
          simp only [Option.some.injEq, Addr.mk.injEq, and_true] at e'
          obtain ⟨rfl, rfl⟩ := e'
          exact World.block_lt_of_cell? _ _ hc)
        have HFar := Lib.hid (show some ba ≠ u4.ownBlock from fun e => by have := (HO.out.lt _ e.symm).1; have := HL.out; omega)
        have hlt : ba < wr.heap.size := Nat.lt_of_lt_of_le HL.out hsz
        go_wp2_with fail
        go_region_held3 (fun w' => w'.cell? ⟨ba, oa + i * 2, none⟩ = some (.int .i64 E1) ∧ w'.cell? ⟨ba, oa + i * 2 + 1, none⟩ = some (.int .i64 P1))
          (first
            | go_keep
            | (go_split_ands; exact ⟨(hgrow.cell_far _ (by simp; omega) HFar.out).trans (by assumption), (hgrow.cell_far _ (by simp; omega) HFar.out).trans (by assumption)⟩))
          ((refine step_append_lies _ (by rfl) _ _ _ (by rfl) w2.heap.size 32 i00 _ 2 16 Try.underlying89 hi hz0 hz1 hz2 rfl (by omega) _ i (cellsW (ps.take i)) (by rfl) ((HO.out.alloc _).drew) ⟨wr.heap.size, 0, none⟩ 1 1 [.int .i64 E1, .int .i64 P1] (by rfl) (by rfl) (World.news_of_block (cs := #[.int .i64 E1, .int .i64 P1]) (t := 32) (fr := (0, 0)) (heap_alloc_new wr _)) (by simp [Value.oneCell']) (by omega) (by unfold maxLen; omega) (by omega) (by simp; omega) (wr.heap.size + 1) (by simp) ?_; intro gg cap2 w1 hown1 hgrow hat hlt1))
        all_goals
          have HO1 := Lib.hid hown1
          have HG1 := Lib.hid hgrow
          clear hown1 hgrow
          go_wp2
          go_roundw
          case rel =>
            refine ⟨i + 1, by go_num, by omega, ?_, ?_⟩
            · rw [TK.out, cellsW_append]
              exact HO1.out
            · exact ((HW.out.alloc hsz _).drew).grown HG1.out (by simp; omega) (fun g hg => (HO.out.lt g hg).1)
          case measure => simp [intOf]; omega
      · have b1 : decide (i < len) = false := by simp; omega
        have b2 : decide ((i : Int) < (len : Int)) = false := by simp; omega
        obtain rfl : i = len := by omega
        have ET := Lib.hid (show ps.take i = ps by rw [List.take_of_length_le (by rw [LN.out]; omega)])
        rw [ET.out] at HO
        obtain ⟨a', c', hv, hr, _⟩ := rowP_of_owns (ps := ps) (by rw [LN.out]; exact HO.out)
        rw [LN.out] at hv hr
        subst hv
        have RP := Lib.hid hr
        have RW := Lib.hid (R2.out.below HW.out)
        have BW := Lib.hid (show Below w.heap.size w wr from B2.out.trans (HW.out.mono (by omega)))
        clear hr
        go_wp2_with fail
        refine (rsum_any a' i c' ps wr RP.out (okW_may HM.out) (by omega)).mono ?_
        rintro z w6 ⟨v, rfl, hr, hb⟩
        have X := Lib.hid (RW.out.below hb)
        have BB := Lib.hid (below_next BW.out hb)
        have RR := Lib.hid (hr.mono (base' := 0) (L' := 20) (Nat.zero_le _) (by omega))
        obtain ⟨an, ln, cn, zn, ad, ld, cd, zd, rfl, q1, q2, q3, q4, q5⟩ := hr
        clear hb q1 q2 q3 q4 q5
        have x0 := X.out.cell 0; have x1 := X.out.cell 1
        simp at x0 x1
        have fz : ∀ o, w6.frozen? ⟨w.heap.size, o, none⟩ = false := fun o => X.out.free o
        go_wp2
        exact bodyPost_ret (v := .agg #[.slice an ln cn, .slice ad ld cd]) (by simp [results, Try.results27, go_sem, x0, x1]) rfl ⟨_, rfl, by rw [UR.out]; exact RR.out.boxed X.out _ _, (BB.out.setCell (Nat.le_refl _) _).setCell (Nat.le_refl _) _⟩
  · have HM := Lib.hid hM
    have UR := Lib.hid (show useR ps = (0, 1) from if_neg hM)
    clear h hM
    go_enter Try.func27, Try.ntmps27
    go_wp2_with fail
    clear hW1
    refine (r14check_any a len cap ps W1 H1.out false ⟨(fun h => by cases h), fun h => absurd h HM.out⟩).mono ?_
    rintro e w2 ⟨rfl, hb⟩
    have B2 := Lib.hid (below_next B1.out hb)
    have R2 := Lib.hid (R1.out.below hb)
    clear hb B1 R1 H1
    go_wp2
    go_loopw [4, 5] (fun u v wr => u = .slice none 0 0 ∧ v = .int .i64 0 ∧ wr = w2) (fun _ _ _ => 0)
    case atStart => exact ⟨rfl, rfl, rfl⟩
    case round =>
      obtain ⟨rfl, rfl, rfl⟩ := hrel
      by_cases g1 : 0 < len
      all_goals
        go_wp2_with fail
        refine (rsum_any none 0 0 [] wr ⟨rfl, by omega, by omega, (fun _ => rfl), (fun i hi => by omega)⟩ (fun p hp => by cases hp) (by omega)).mono ?_
        rintro z w6 ⟨v, rfl, hr, hb⟩
        have X := Lib.hid (R2.out.below hb)
        have BB := Lib.hid (below_next B2.out hb)
        have RR := Lib.hid (hr.mono (base' := 0) (L' := 20) (Nat.zero_le _) (by omega))
        obtain ⟨an, ln, cn, zn, ad, ld, cd, zd, rfl, q1, q2, q3, q4, q5⟩ := hr
        clear hb q1 q2 q3 q4 q5
        have x0 := X.out.cell 0; have x1 := X.out.cell 1
        simp at x0 x1
        have fz : ∀ o, w6.frozen? ⟨w.heap.size, o, none⟩ = false := fun o => X.out.free o
        go_wp2
        exact bodyPost_ret (v := .agg #[.slice an ln cn, .slice ad ld cd]) (by simp [results, Try.results27, go_sem, x0, x1]) rfl ⟨_, rfl, by rw [UR.out]; exact RR.out.boxed X.out _ _, (BB.out.setCell (Nat.le_refl _) _).setCell (Nat.le_refl _) _⟩
/-! ### in memory -/
def rboxS (s : SS) (a : Option Addr) (len cap : Nat) : Array Value := #[.slice a len cap, .int .i64 s.A, .int .i64 s.last, .int .i64 (s.D 0), .int .i64 (s.D 1), .int .i64 (s.D 2), .int .i64 (s.D 3), .int .i64 (s.D 4), .int .i64 (s.D 5), .int .i64 (s.D 6), .int .i64 (s.D 7), .int .i64 s.served, .int .i64 s.idle]
theorem rbox_done {s : SS} {a : Option Addr} {len cap i : Nat} (hi : i < 8) : (rboxS s a len cap)[3 + i]? = some (.int .i64 (s.D i)) := by
  match i, hi with
  | 0, _ => rfl
  | 1, _ => rfl
  | 2, _ => rfl
  | 3, _ => rfl
  | 4, _ => rfl
  | 5, _ => rfl
  | 6, _ => rfl
  | 7, _ => rfl
  | k + 8, h => omega
theorem rbox_set {s s' : SS} {a : Option Addr} {len cap i : Nat} (hi : i < 8) (eA : s'.A = s.A) (el : s'.last = s.last) (ed : ∀ j, j ≠ i → s'.D j = s.D j) (es : s'.served = s.served) (ei : s'.idle = s.idle) : (rboxS s a len cap).setIfInBounds (3 + i) (.int .i64 (s'.D i)) = rboxS s' a len cap := by
  unfold rboxS
  rw [eA, el, es, ei]
  match i, hi with
  | 0, _ => rw [ed 1 (by omega), ed 2 (by omega), ed 3 (by omega), ed 4 (by omega), ed 5 (by omega), ed 6 (by omega), ed 7 (by omega)]; rfl
  | 1, _ => rw [ed 0 (by omega), ed 2 (by omega), ed 3 (by omega), ed 4 (by omega), ed 5 (by omega), ed 6 (by omega), ed 7 (by omega)]; rfl
  | 2, _ => rw [ed 1 (by omega), ed 0 (by omega), ed 3 (by omega), ed 4 (by omega), ed 5 (by omega), ed 6 (by omega), ed 7 (by omega)]; rfl
  | 3, _ => rw [ed 1 (by omega), ed 2 (by omega), ed 0 (by omega), ed 4 (by omega), ed 5 (by omega), ed 6 (by omega), ed 7 (by omega)]; rfl
  | 4, _ => rw [ed 1 (by omega), ed 2 (by omega), ed 3 (by omega), ed 0 (by omega), ed 5 (by omega), ed 6 (by omega), ed 7 (by omega)]; rfl
  | 5, _ => rw [ed 1 (by omega), ed 2 (by omega), ed 3 (by omega), ed 4 (by omega), ed 0 (by omega), ed 6 (by omega), ed 7 (by omega)]; rfl
  | 6, _ => rw [ed 1 (by omega), ed 2 (by omega), ed 3 (by omega), ed 4 (by omega), ed 5 (by omega), ed 0 (by omega), ed 7 (by omega)]; rfl
  | 7, _ => rw [ed 1 (by omega), ed 2 (by omega), ed 3 (by omega), ed 4 (by omega), ed 5 (by omega), ed 6 (by omega), ed 0 (by omega)]; rfl
  | k + 8, h => omega
/-- block r is the document's supertask; its parts lie where a leads -/
structure RAt (w : World) (r : Nat) (a : Option Addr) (len cap : Nat) (s : SS) : Prop where
  box : Blk w 49 r (rboxS s a len cap)
  parts : RowP w a len cap s.ps
  ne : ∀ ad : Addr, a = some ad → ad.block ≠ r
  good : GoodU s
theorem RAt.below {w w' : World} {r : Nat} {a : Option Addr} {len cap : Nat} {s : SS} (h : RAt w r a len cap s) (hb : Below w.heap.size w w') : RAt w' r a len cap s := ⟨h.box.below hb, h.parts.below hb, h.ne, h.good⟩
theorem RowP.keepsP {F : Nat → Prop} {W W' : World} {a : Option Addr} {len cap : Nat} {ps : List (Int × Int)} (h : RowP W a len cap ps) (k : Keeps F W W') (hF : ∀ ad : Addr, a = some ad → ¬ F ad.block) : RowP W' a len cap ps := by
  refine ⟨h.1, h.2.1, h.2.2.1, h.2.2.2.1, fun i hi => ?_⟩
  obtain ⟨b, off, ha, hc1, hc2⟩ := h.2.2.2.2 i hi
  have hl := World.block_lt_of_cell? _ _ hc1
  have hh := k.block b hl (hF ⟨b, off, none⟩ ha)
  exact ⟨b, off, ha, (World.cell?_of_block (w := W) (a := ⟨b, off + i * 2, none⟩) hh).trans hc1, (World.cell?_of_block (w := W) (a := ⟨b, off + i * 2 + 1, none⟩) hh).trans hc2⟩
theorem RAt.keeps {F : Nat → Prop} {w w' : World} {r : Nat} {a : Option Addr} {len cap : Nat} {s : SS} (h : RAt w r a len cap s) (k : Keeps F w w') (h1 : ¬ F r) (h2 : ∀ ad : Addr, a = some ad → ¬ F ad.block) : RAt w' r a len cap s := ⟨h.box.keeps k h1, h.parts.keepsP k h2, h.ne, h.good⟩
theorem RAt.len {w : World} {r : Nat} {a : Option Addr} {len cap : Nat} {s : SS} (h : RAt w r a len cap s) : s.n = len := h.parts.len
/-- its own block, written -/
theorem RAt.wrote {w : World} {r : Nat} {a : Option Addr} {len cap : Nat} {s s' : SS} (h : RAt w r a len cap s) (i : Nat) (u : Value) (ep : s'.ps = s.ps) (eb : (rboxS s a len cap).setIfInBounds i u = rboxS s' a len cap) (hg : GoodU s') : RAt (w.setCell ⟨r, i, none⟩ u) r a len cap s' :=
  ⟨by rw [← eb]; exact h.box.set_ i u, by rw [ep]; exact h.parts.keepsP (F := fun k => k = r) ((Keeps.refl (fun k => k = r) w).set (.inl rfl) _ _) h.ne, h.ne, hg⟩
theorem r14new_any (a : Option Addr) (len cap : Nat) (ps : List (Int × Int)) (t : Int) (w : World) (h : RowP w a len cap ps) (hM : MayP ps) (t0 : 0 ≤ t) (t1 : t ≤ 1099511627776) :
    Calls Try.prog 15 #[.slice a len cap, .int .i64 t] w fun z w' => z = .returned (.pointer (some ⟨w.heap.size, 0, none⟩)) ∧ RAt w' w.heap.size a len cap (ss0 ps t) ∧ Below w.heap.size w w' := by
  have H := Lib.hid h
  have G := Lib.hid (goodu_ss0 hM t0 t1)
  obtain ⟨W1, hW1⟩ : ∃ W1, w.alloc (.cells (rboxS (ss0 ps t) a len cap) 49) = W1 := ⟨_, rfl⟩
  have R1 := Lib.hid (show RAt W1 w.heap.size a len cap (ss0 ps t) from by
    rw [← hW1]
    refine ⟨Blk.new _ _ _, h.below (wbox _ _), fun ad e => ?_, G.out⟩
    have hl : 0 < len := by have := hM.some_; rw [h.len] at this; exact this
    obtain ⟨b, off, e', hc, _⟩ := h.cell hl
    have := World.block_lt_of_cell? _ _ hc
    rw [e] at e'
    cases e'
    have h2 : b < w.heap.size := this
    show b ≠ w.heap.size
    omega)
  have B1 := Lib.hid (show Below w.heap.size w W1 by rw [← hW1]; exact wbox _ _)
  have E1 : w.alloc (.cells #[.slice a len cap, .int .i64 t, .int .i64 t, .int .i64 0, .int .i64 0, .int .i64 0, .int .i64 0, .int .i64 0, .int .i64 0, .int .i64 0, .int .i64 0, .int .i64 0, .int .i64 0] 49) = W1 := hW1
  clear h hM hW1
  go_enter Try.func15, Try.ntmps15
  go_wp2
  go_ret
  exact ⟨rfl, R1.out, B1.out⟩
end Go.Proofs.Ytnlgophgglgneaa

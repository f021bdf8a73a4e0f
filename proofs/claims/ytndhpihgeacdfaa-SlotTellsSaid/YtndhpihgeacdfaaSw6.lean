/-
  Package slot's Bytes: contract.
-/
import Derived.Test.YtndhpihgeacdfaaSw5
import Derived.Test.YtndhpihgeacdfaaSw1
import Derived.Test.YtndhpihgeacdfaaSs8
namespace Go.Proofs.Ytndhpihgeacdfaa
open Go.RowKit

theorem row_lit (w : World) (zs : List Int) (h : zs.length ≤ 1000) : Row .i64 (w.alloc (.cells (zs.map (Value.int .i64)).toArray 2)) (some ⟨w.heap.size, 0, none⟩) zs.length zs.length zs := by
  refine ⟨rfl, Nat.le_refl _, by omega, (fun e => by cases e), fun i hi => ⟨_, _, rfl, ?_⟩⟩
  rw [cell_of_row _ w.heap.size (0 + i) _ _ _ (heap_alloc_new w _)]
  rw [Nat.zero_add, List.getElem?_toArray, List.getElem?_map, List.getElem?_eq_getElem hi, List.getD_eq_getElem?_getD, List.getElem?_eq_getElem hi]
  rfl
theorem pwrite_at {B : Nat} {w : World} {v : Value} {L : List UInt8} (zs : List Int) (cs : Array Value) (n : Nat) (hc : (zs.map (Value.int .i64)).toArray = cs) (hn : zs.length = n) (ho : OB B w v L) (hB : B ≤ w.heap.size) (hz : ∀ z ∈ zs, 0 ≤ z ∧ z ≤ 1099511627776) (hl : L.length ≤ 900000000) (h3 : n ≤ 10) :
    Calls Try.prog 31 #[v, .slice (some ⟨w.heap.size, 0, none⟩) n n] (w.alloc (.cells cs 2)) (Wrote B w v (L ++ numsB zs)) := by
  subst hc hn
  refine (pwrite_any B v L _ _ _ zs _ (ho.below (wbox w _)) (row_lit w zs (by omega)) (fun ad e q => ?_) (Nat.le_trans hB (wbox w _).size) hz hl (by omega)).mono ?_
  · cases e
    have := (ho.lt q).2
    exact absurd this (Nat.lt_irrefl _)
  · rintro e w' ⟨v', rfl, h⟩
    refine ⟨v', rfl, h.own, (Keeps.of (F := fun k => v.ownBlock = some k) (wbox w _)).trans h.keeps (fun x q => .inl q), fun k q => (h.blk k q).imp id fun g => Nat.le_trans (wbox w _).size g⟩
theorem bys_at (L : List UInt8) (j : Nat) (hj : j < L.length) : (bys L)[j]? = some (.int .u8 (L[j].toNat)) := by
  unfold bys
  rw [List.getElem?_map, List.getElem?_eq_getElem hj]
  rfl
/-- bytes of one's own, as a text -/
theorem conv_own {B : Nat} {w : World} {v : Value} {L : List UInt8} (h : OB B w v L) : (convert 30 9 v).run Try.prog w = .ok (.string (BS L)) w := by
  have hlt : ∀ j (hj : j < L.length), (bys L)[j]? = some (.int .u8 (L[j].toNat)) := bys_at L
  rcases h.2 with ⟨rfl, hn⟩ | ⟨g, cap, cur, rfl, _⟩
  · have : L = [] := List.length_eq_zero_iff.mp hn
    subst this
    rfl
  · refine run_convert_bytes_back (P := Try.prog) _ _ _ 5 ⟨g, 0, none⟩ cap L Try.underlying30 Try.underlying5 Try.underlying9 (fun j hj => ?_)
    exact h.cells (g := g) rfl j _ (hlt j hj)

set_option maxRecDepth 20000 in
set_option maxHeartbeats 4000000 in
theorem pbytes_any (a : Option Addr) (len cap : Nat) (l : List Sk) (w : World) (h : RowK w a len cap l) (hs : SmallK l) :
    Calls Try.prog 16 #[.slice a len cap] w fun e w' => e = .returned (.string (BS (bytesK l))) ∧ Below w.heap.size w w' := by
  have H := Lib.hid h
  have LN := Lib.hid h.len
  have HS := Lib.hid hs
  have len4 : len ≤ 4096 := by rw [← h.len]; exact hs.a
  clear h hs
  go_enter Try.func16, Try.ntmps16
  go_wp2_with fail
  refine (prow_any a len cap l 1024 w H.out).mono ?_
  rintro e w1 ⟨rfl, hb⟩
  have B := Lib.hid hb
  have H1 := Lib.hid (H.out.below hb)
  clear hb
  cases hr : rowB l 1024 with
  | false =>
    have V := Lib.hid (show bytesK l = [] by unfold bytesK; rw [hr]; rfl)
    clear hr
    go_wp2
    go_ret
    exact ⟨by rw [V.out]; rfl, B.out⟩
  | true =>
    have V := Lib.hid (show bytesK l = bytesL l by unfold bytesK; rw [hr]; rfl)
    have RT := Lib.hid (rowB_true.mp hr)
    have MY := Lib.hid (bytes_may (rowB_true.mp hr))
    clear hr
    have HB := Lib.hid (show 0 ≤ headAt l ∧ headAt l ≤ 1099511627776 by
      cases l with
      | nil => simp [headAt]
      | cons s l => have := MY.out s List.mem_cons_self; exact ⟨this.t0, this.t1⟩)
    have NL := Lib.hid (numI_len (x := (len : Int)) (by omega))
    have NA := Lib.hid (numI_len (x := (headAt l)) HB.out.2)
    have VE := Lib.hid (show bytesL l = numsB [(len : Int), headAt l] ++ slotsB l by
      unfold bytesL numsB
      rw [LN.out]
      simp [numI])
    have QL := Lib.hid (show (numsB [(len : Int), headAt l]).length ≤ 12 from nums_len _ (by intro z hz; simp at hz; rcases hz with e | e <;> rw [e]; omega; exact HB.out.2))
    have QZ := Lib.hid (show ∀ z ∈ [(len : Int), headAt l], 0 ≤ z ∧ z ≤ 1099511627776 by intro z hz; simp at hz; rcases hz with e | e <;> rw [e]; omega; exact HB.out)
    by_cases z : 0 < len
    · have b1 : decide ((0 : Int) < (len : Int)) = true := by simp; omega
      have b1' : decide (0 < len) = true := by simp; omega
      obtain ⟨s, hs, -⟩ := get_of (l := l) (i := 0) (by rw [LN.out]; exact z)
      obtain ⟨ba, oa, ao, lo, co, rfl, x0, _, _⟩ := H1.out.at hs
      have hh : headAt l = s.tm := by cases l with
        | nil => simp at hs
        | cons y l => simp at hs; rw [← hs]; rfl
      rw [← hh, Nat.zero_mul, Nat.add_zero] at x0
      have j0 : (0 : Int) < (len : Int) := by omega
      clear hs hh
      obtain ⟨hd, hhd⟩ : ∃ hd, headAt l = hd := ⟨_, rfl⟩
      rw [hhd] at VE QL QZ
      rw [hhd] at x0
      clear hhd
      go_wp2_with fail
      refine (pwrite_at (B := w.heap.size) [(len : Int), hd] _ 2 rfl rfl (OB.nil _ _) B.out.size QZ.out (by simp) (by omega)).mono ?_
      rintro e w2 ⟨v2, rfl, hw⟩
      have O2 := Lib.hid hw.own
      have B2 := Lib.hid (show Below w.heap.size w w2 from hw.keeps.below B.out (fun k e => by cases e) B.out.size)
      clear hw
      obtain ⟨Q, hQ⟩ : ∃ Q, numsB [(len : Int), hd] = Q := ⟨_, rfl⟩
      rw [hQ] at VE QL O2
      clear hQ
      go_wp2
      clear b1 b1'
      try clear x0
      go_loopw [4, 27] (fun v u wr => ∃ i : Nat, u = .int .i64 i ∧ i ≤ len ∧ OB w.heap.size wr v (Q ++ slotsB (l.take i)) ∧ Below w.heap.size w wr) (fun _ u _ => len - (intOf u).toNat)
      case atStart => exact ⟨0, rfl, by omega, by simpa [slotsB] using O2.out, B2.out⟩
      case round =>
        obtain ⟨i, rfl, i1, ho, hb⟩ := hrel
        have O4 := Lib.hid ho
        have B4 := Lib.hid hb
        clear ho hb
        have SL := Lib.hid (show (Q ++ slotsB (l.take i)).length ≤ 400000000 by
          have h1 := slotsB_len (l.take i) 1024 (by omega) fun x hx => ⟨HS.out.b x (List.mem_of_mem_take hx), MY.out x (List.mem_of_mem_take hx)⟩
          have h2 := QL.out
          rw [List.length_take] at h1
          rw [List.length_append]
          omega)
        by_cases go : i < len
        · have b1 : decide ((i : Int) < (len : Int)) = true := by simp; omega
          have b1' : decide (i < len) = true := by simp; omega
          obtain ⟨s, hs, hts⟩ := get_of (l := l) (i := i) (by rw [LN.out]; exact go)
          have TS := Lib.hid (show slotsB (l.take (i + 1)) = slotsB (l.take i) ++ slotB s by rw [hts, slots_snoc])
          have RL := Lib.hid (HS.out.b s (List.mem_of_getElem? hs))
          have MS := Lib.hid (MY.out s (List.mem_of_getElem? hs))
          obtain ⟨ba', oa', ao, lo, co, e', x0, x1, hu⟩ := H.out.at hs
          have HU := Lib.hid hu
          have LU := Lib.hid hu.len
          have x0 := cell_on B4.out x0
          have x1 := cell_on B4.out x1
          have lo4 : lo ≤ 4096 := by rw [← hu.len]; exact RL.out
          cases e'
          have i3 : (i : Int) < (len : Int) := by omega
          have i0 : 0 ≤ (i : Int) := by omega
          have SB := Lib.hid (show slotB s = numsB [(lo : Int)] ++ runsB 0 s.runs by unfold slotB numsB; rw [LU.out]; simp [numI])
          have RE := Lib.hid (show ∀ r ∈ s.runs, 0 ≤ r.core ∧ r.core < 1024 ∧ 0 ≤ r.id ∧ r.id ≤ 1023 ∧ 1 ≤ r.idx ∧ r.idx ≤ 1099511627776 from fun r hr => MS.out.runs.each r (by rw [List.take_length]; exact hr))
          have CO := Lib.hid (show s.runs.Pairwise (fun a b => a.core < b.core) by have := MS.out.runs.cores; rwa [List.take_length] at this)
          obtain ⟨tm, rs⟩ := s
          replace SB := Lib.hid (show slotB ⟨tm, rs⟩ = numsB [(lo : Int)] ++ runsB 0 rs from SB.out)
          replace RE := Lib.hid (show ∀ r ∈ rs, 0 ≤ r.core ∧ r.core < 1024 ∧ 0 ≤ r.id ∧ r.id ≤ 1023 ∧ 1 ≤ r.idx ∧ r.idx ≤ 1099511627776 from RE.out)
          replace CO := Lib.hid (show rs.Pairwise (fun a b => a.core < b.core) from CO.out)
          replace LU := Lib.hid (show rs.length = lo from LU.out)
          replace HU := Lib.hid (show RowU w ao lo co rs from HU.out)
          replace x0 : wr.cell? ⟨ba, oa + i * 2, none⟩ = some (.int .i64 tm) := x0
          obtain ⟨P, hP⟩ : ∃ P, Q ++ slotsB (l.take i) = P := ⟨_, rfl⟩
          have TP := Lib.hid (show Q ++ slotsB (l.take (i + 1)) = P ++ numsB [(lo : Int)] ++ runsB 0 rs by rw [TS.out, SB.out, ← hP]; simp)
          rw [hP] at SL O4
          obtain ⟨W4, hW4⟩ : ∃ W4, wr.alloc (.cells #[.int .i64 tm, .slice ao lo co] 47) = W4 := ⟨_, rfl⟩
          obtain ⟨g, hg⟩ : ∃ g, wr.heap.size = g := ⟨_, rfl⟩
          have B5 := Lib.hid (show Below w.heap.size w W4 by rw [← hW4]; exact B4.out.trans ((wbox _ _).mono B4.out.size))
          have R4 := Lib.hid (show Blk W4 47 g #[.int .i64 tm, .slice ao lo co] by rw [← hW4, ← hg]; exact Blk.new _ _ _)
          have O5 := Lib.hid (show OB w.heap.size W4 u4 P by rw [← hW4]; exact O4.out.below (wbox _ _))
          have NG := Lib.hid (show u4.ownBlock ≠ some g from fun e => by have := (O4.out.lt e).2; omega)
          have y0 := R4.out.cell 0; have y1 := R4.out.cell 1
          simp at y0 y1
          clear hs hts hu hP O4
          go_wp2_with fail
          try rw [hW4]
          try rw [hg]
          clear hW4 hg x0 x1 y0 y1
          refine (pwrite_at (B := w.heap.size) [(lo : Int)] _ 1 rfl rfl O5.out B5.out.size (by intro z hz; simp at hz; rw [hz]; omega) (by have := SL.out; omega) (by omega)).mono ?_
          rintro e w5 ⟨v5, rfl, hw⟩
          have O6 := Lib.hid hw.own
          have R6 := Lib.hid (R4.out.keeps hw.keeps NG.out)
          have B6 := Lib.hid (show Below w.heap.size w w5 from hw.keeps.below B5.out (fun k e => (O5.out.lt e).1) B5.out.size)
          clear hw
          have PL := Lib.hid (show (P ++ numsB [(lo : Int)]).length ≤ 400000006 by
            have h1 := nums_len [(lo : Int)] (by intro z hz; simp at hz; rw [hz]; omega)
            have h2 := SL.out
            simp only [List.length_singleton] at h1
            rw [List.length_append]
            omega)
          obtain ⟨P2, hP2⟩ : ∃ P2, P ++ numsB [(lo : Int)] = P2 := ⟨_, rfl⟩
          rw [hP2] at PL TP O6
          clear hP2
          have y0 := R6.out.cell 0; have y1 := R6.out.cell 1
          simp at y0 y1
          go_wp2
          clear y0 y1
          go_loopw [4, 7, 40] (fun v c u wx => ∃ k : Nat, u = .int .i64 k ∧ k ≤ lo ∧ c = .int .i64 (lastC 0 (rs.take k)) ∧ OB w.heap.size wx v (P2 ++ runsB 0 (rs.take k)) ∧ Below w.heap.size w wx) (fun _ _ u _ => lo - (intOf u).toNat)
          case atStart => exact ⟨0, rfl, by omega, rfl, by simpa [runsB] using O6.out, B6.out⟩
          case round =>
            obtain ⟨k, rfl, k1, rfl, ho, hb⟩ := hrel
            have O7 := Lib.hid ho
            have B7 := Lib.hid hb
            clear ho hb
            by_cases go2 : k < lo
            · have d1 : decide ((k : Int) < (lo : Int)) = true := by simp; omega
              have d1' : decide (k < lo) = true := by simp; omega
              obtain ⟨r, hr, hrs⟩ := get_of (l := rs) (i := k) (by rw [LU.out]; exact go2)
              have RR := RE.out r (List.mem_of_getElem? hr)
              have LK := lastC_ge (rs.take k) 0 (by omega) fun y hy => (RE.out y (List.mem_of_mem_take hy)).1
              have LM := lastC_le (rs.take k) 0 r.core RR.1 fun y hy => by
                have hp := CO.out.sublist (List.take_sublist (k + 1) rs)
                rw [hrs, List.pairwise_append] at hp
                exact Int.le_of_lt (hp.2.2 y hy r (by simp))
              have RN := Lib.hid (show runsB 0 (rs.take (k + 1)) = runsB 0 (rs.take k) ++ numsB [r.core - lastC 0 (rs.take k), r.id, r.idx] by rw [hrs, runsB_append]; unfold numsB; simp [runsB])
              have LX := Lib.hid (show lastC 0 (rs.take (k + 1)) = r.core by rw [hrs, lastC_append]; rfl)
              have UL := runsB_len (rs.take k) 0 (by omega) fun y hy => by have := RE.out y (List.mem_of_mem_take hy); omega
              rw [List.length_take] at UL
              obtain ⟨bb, ob, rfl, hat⟩ := HU.out.at hr
              have z0 := cell_on B7.out hat.c0; have z1 := cell_on B7.out hat.c1; have z2 := cell_on B7.out hat.c2
              have k3 : (k : Int) < (lo : Int) := by omega
              have k0 : 0 ≤ (k : Int) := by omega
              obtain ⟨rid, rcore, ridx⟩ := r
              replace z0 : wr.cell? ⟨bb, ob + k * 3, none⟩ = some (.int .i64 rid) := z0
              replace z1 : wr.cell? ⟨bb, ob + k * 3 + 1, none⟩ = some (.int .i64 rcore) := z1
              replace z2 : wr.cell? ⟨bb, ob + k * 3 + 2, none⟩ = some (.int .i64 ridx) := z2
              replace RR : 0 ≤ rcore ∧ rcore < 1024 ∧ 0 ≤ rid ∧ rid ≤ 1023 ∧ 1 ≤ ridx ∧ ridx ≤ 1099511627776 := RR
              replace LM : lastC 0 (rs.take k) ≤ rcore := LM
              replace RN := Lib.hid (show runsB 0 (rs.take (k + 1)) = runsB 0 (rs.take k) ++ numsB [rcore - lastC 0 (rs.take k), rid, ridx] from RN.out)
              replace LX := Lib.hid (show lastC 0 (rs.take (k + 1)) = rcore from LX.out)
              obtain ⟨lc, hlc⟩ : ∃ lc, lastC 0 (rs.take k) = lc := ⟨_, rfl⟩
              rw [hlc] at LK LM RN ⊢
              obtain ⟨U, hU⟩ : ∃ U, runsB 0 (rs.take k) = U := ⟨_, rfl⟩
              rw [hU] at UL RN O7
              have wv : IntKind.i64.wrap (rcore - lc) = rcore - lc := IntWalk.i64_in _ (by omega)
              obtain ⟨W8, hW8⟩ : ∃ W8, wr.alloc (.cells #[.int .i64 rid, .int .i64 rcore, .int .i64 ridx] 44) = W8 := ⟨_, rfl⟩
              obtain ⟨g2, hg2⟩ : ∃ g2, wr.heap.size = g2 := ⟨_, rfl⟩
              have B8 := Lib.hid (show Below w.heap.size w W8 by rw [← hW8]; exact B7.out.trans ((wbox _ _).mono B7.out.size))
              have R8 := Lib.hid (show Blk W8 44 g2 #[.int .i64 rid, .int .i64 rcore, .int .i64 ridx] by rw [← hW8, ← hg2]; exact Blk.new _ _ _)
              have O8 := Lib.hid (show OB w.heap.size W8 u4 (P2 ++ U) by rw [← hW8]; exact O7.out.below (wbox _ _))
              have NG2 := Lib.hid (show u4.ownBlock ≠ some g2 from fun e => by have := (O7.out.lt e).2; omega)
              have OL : (P2 ++ U).length ≤ 900000000 := by have := PL.out; rw [List.length_append]; omega
              have ZS := Lib.hid (show ∀ z ∈ [rcore - lc, rid, ridx], 0 ≤ z ∧ z ≤ 1099511627776 by intro z hz; simp at hz; rcases hz with e | e | e <;> rw [e] <;> omega)
              have r0 := R8.out.cell 0; have r1 := R8.out.cell 1; have r2 := R8.out.cell 2
              simp at r0 r1 r2
              clear hr hrs hat hlc hU O7
              go_wp2_with fail
              try rw [hW8]
              try rw [hg2]
              clear hW8 hg2 z0 z1 z2 r0 r1 r2
              refine (pwrite_at (B := w.heap.size) [rcore - lc, rid, ridx] _ 3 rfl rfl O8.out B8.out.size ZS.out OL (by omega)).mono ?_
              rintro e w9 ⟨v9, rfl, hw⟩
              have O9 := Lib.hid (show OB w.heap.size w9 v9 (P2 ++ runsB 0 (rs.take (k + 1))) by rw [RN.out, ← List.append_assoc]; exact hw.own)
              have R9 := Lib.hid (R8.out.keeps hw.keeps NG2.out)
              have B9 := Lib.hid (show Below w.heap.size w w9 from hw.keeps.below B8.out (fun k e => (O8.out.lt e).1) B8.out.size)
              clear hw
              have r1 := R9.out.cell 1
              simp at r1
              go_wp2
              go_roundw
              case rel => exact ⟨k + 1, by go_num, by omega, by rw [LX.out], O9.out, B9.out⟩
              case measure => simp [intOf]; omega
            · have d1 : decide ((k : Int) < (lo : Int)) = false := by simp; omega
              have d1' : decide (k < lo) = false := by simp; omega
              have NX := Lib.hid (show OB w.heap.size wr u4 (Q ++ slotsB (l.take (i + 1))) by rw [TP.out]; have h1 := O7.out; rw [List.take_of_length_le (show rs.length ≤ k by rw [LU.out]; omega)] at h1; exact h1)
              go_wp2
              go_roundw
              case rel => exact ⟨i + 1, by go_num, by omega, NX.out, B7.out⟩
              case measure => simp [intOf]; omega
        · have b1 : decide ((i : Int) < (len : Int)) = false := by simp; omega
          have b1' : decide (i < len) = false := by simp; omega
          have NX := Lib.hid (show OB w.heap.size wr u4 (bytesK l) by rw [V.out, VE.out]; have h1 := O4.out; rw [List.take_of_length_le (show l.length ≤ i by rw [LN.out]; omega)] at h1; exact h1)
          have CV := conv_own NX.out
          go_wp2
          go_ret
          exact ⟨rfl, B4.out⟩
    · have b1 : decide ((0 : Int) < (len : Int)) = false := by simp; omega
      have b1' : decide (0 < len) = false := by simp; omega
      have hh : headAt l = 0 := by cases l with
        | nil => rfl
        | cons y l => have := LN.out; simp at this; omega
      have x0 := hh
      obtain ⟨hd, hhd⟩ : ∃ hd, headAt l = hd := ⟨_, rfl⟩
      rw [hhd] at VE QL QZ
      rw [hhd] at x0; subst x0
      clear hhd
      go_wp2_with fail
      refine (pwrite_at (B := w.heap.size) [(len : Int), (0 : Int)] _ 2 rfl rfl (OB.nil _ _) B.out.size QZ.out (by simp) (by omega)).mono ?_
      rintro e w2 ⟨v2, rfl, hw⟩
      have O2 := Lib.hid hw.own
      have B2 := Lib.hid (show Below w.heap.size w w2 from hw.keeps.below B.out (fun k e => by cases e) B.out.size)
      clear hw
      obtain ⟨Q, hQ⟩ : ∃ Q, numsB [(len : Int), (0 : Int)] = Q := ⟨_, rfl⟩
      rw [hQ] at VE QL O2
      clear hQ
      go_wp2
      clear b1 b1'
      try clear x0
      go_loopw [4, 27] (fun v u wr => ∃ i : Nat, u = .int .i64 i ∧ i ≤ len ∧ OB w.heap.size wr v (Q ++ slotsB (l.take i)) ∧ Below w.heap.size w wr) (fun _ u _ => len - (intOf u).toNat)
      case atStart => exact ⟨0, rfl, by omega, by simpa [slotsB] using O2.out, B2.out⟩
      case round =>
        obtain ⟨i, rfl, i1, ho, hb⟩ := hrel
        have O4 := Lib.hid ho
        have B4 := Lib.hid hb
        clear ho hb
        have SL := Lib.hid (show (Q ++ slotsB (l.take i)).length ≤ 400000000 by
          have h1 := slotsB_len (l.take i) 1024 (by omega) fun x hx => ⟨HS.out.b x (List.mem_of_mem_take hx), MY.out x (List.mem_of_mem_take hx)⟩
          have h2 := QL.out
          rw [List.length_take] at h1
          rw [List.length_append]
          omega)
        by_cases go : i < len
        · exfalso; omega
        · have b1 : decide ((i : Int) < (len : Int)) = false := by simp; omega
          have b1' : decide (i < len) = false := by simp; omega
          have NX := Lib.hid (show OB w.heap.size wr u4 (bytesK l) by rw [V.out, VE.out]; have h1 := O4.out; rw [List.take_of_length_le (show l.length ≤ i by rw [LN.out]; omega)] at h1; exact h1)
          have CV := conv_own NX.out
          go_wp2
          go_ret
          exact ⟨rfl, B4.out⟩
end Go.Proofs.Ytndhpihgeacdfaa

/-
  Package place's Assign: contract.
-/
import Derived.Test.YtokmkfoofgiddaaPb0
namespace Go.Proofs.Ytokmkfoofgiddaa
open Go.RowKit

theorem run_make_rowN {P : Program} (t e : TypeId) (i : TypeInfo) (z : Value) (ht : P.underlying t = some (.slice e)) (hi : P.info? e = some i) (hz : i.zero = some z)
    (kl kc : IntKind) (n c : Nat) (hnc : n ≤ c) (hbytes : i.bytes * c ≤ 281474976710656) (h63 : c ≤ 9223372036854775807) (w : World) :
    (Instr.makeSlice t (.int kl (n : Int)) (.int kc (c : Int))).run P w = .ok (.slice (some ⟨w.heap.size, 0, none⟩) n c) (w.alloc (.cells (madeCells z.cells (c * i.size)) e)) := by
  have hb : (i.bytes : Int) * (c : Int) ≤ 281474976710656 := by
    have h : ((i.bytes * c : Nat) : Int) ≤ 281474976710656 := by omega
    rwa [Int.natCast_mul] at h
  have hr := run_make (P := P) w t e i z ht hi hz kl kc n c (by omega) (by omega) hb (by omega)
  simp only [Int.toNat_natCast] at hr
  exact hr
theorem made_ints (n : Nat) : madeCells (Value.int .i64 0).cells n = Array.replicate n (.int .i64 0) := by
  apply Array.ext_getElem?
  intro j
  simp [madeCells, Value.cells]
  by_cases h : j < n <;> simp [h, Nat.mod_one]
theorem own_made (w : World) (n B : Nat) (hB : B ≤ w.heap.size) (hn : n ≤ 1024) : (w.alloc (.cells (Array.replicate n (.int .i64 0)) 3)).ownsRow B 3 1 (.slice (some ⟨w.heap.size, 0, none⟩) n n) (List.replicate n (0 : Int)).length ((List.replicate n (0 : Int)).map (Value.int .i64)) := by
  refine ⟨by simp, .inr ⟨w.heap.size, n, Array.replicate n (.int .i64 0), by simp, hB, heap_alloc_new _ _, by simp, by unfold maxLen; omega, by simp, by simp⟩⟩
def outP (l : List Rn) (i : Nat) : List Int := (l.take i).map Rn.pin ++ List.replicate (l.length - i) 0
theorem outP_len (l : List Rn) {i : Nat} (h : i ≤ l.length) : (outP l i).length = l.length := by unfold outP; rw [List.length_append, List.length_map, List.length_take, List.length_replicate]; omega
theorem outP_zero (l : List Rn) : outP l 0 = List.replicate l.length 0 := by unfold outP; simp
theorem outP_end (l : List Rn) : outP l l.length = l.map Rn.pin := by unfold outP; simp
theorem outP_at {l : List Rn} {i : Nat} (h : i < l.length) : (outP l i)[i]? = some 0 := by
  unfold outP
  rw [List.getElem?_append_right (by rw [List.length_map, List.length_take]; omega), List.length_map, List.length_take, List.getElem?_replicate]
  rw [if_pos (by omega)]
theorem outP_next {l : List Rn} {i : Nat} {r : Rn} (h : l[i]? = some r) : outP l (i + 1) = (outP l i).set i r.pin := by
  have hi := lt_of_get h
  unfold outP
  obtain ⟨k, hk⟩ : ∃ k, l.length - i = k + 1 := ⟨l.length - i - 1, by omega⟩
  rw [map_take h, hk, show l.length - (i + 1) = k by omega, List.set_append_right _ _ (by rw [List.length_map, List.length_take]; omega), List.length_map, List.length_take, Nat.min_eq_left (by omega), Nat.sub_self, List.replicate_succ, List.set_cons_zero]
  simp
/-- pins are taken one by one -/
theorem pin_take {l : List Rn} {m : Int} (h : MayR l m) {i : Nat} {r : Rn} (hr : l[i]? = some r) : takeB m (pinsR (l.take i)) r.pin = decide (0 ≤ r.pin) := by
  have hi := lt_of_get hr
  have hm := h.each r (List.mem_of_getElem? hr)
  by_cases q : 0 ≤ r.pin
  · have : r.pin ∉ pinsR (l.take i) := fun hc => by
      obtain ⟨_, x, hx, e⟩ := mem_pins.mp hc
      have hf := ((to_step (take_snocR hr)).mp (to_le (may_iff.mp h).2.2.2 (show i + 1 ≤ l.length by omega))).2
      have := hf.pin x hx e
      omega
    rw [takeB_iff.mpr ⟨q, hm.2.1, this⟩]; simp [q]
  · have : takeB m (pinsR (l.take i)) r.pin = false := by
      refine Bool.eq_false_iff.mpr fun e => ?_
      have := (takeB_iff.mp e).1
      omega
    rw [this]; simp; omega
theorem keepC_take {m : Int} {tk : List Int} {r : Rn} (h : -1 ≤ r.pin ∧ r.pin < m ∧ -1 ≤ r.last ∧ r.last < m) : KeepC tk r ↔ r.pin = -1 ∧ takeB m tk r.last = true := by
  unfold KeepC
  rw [takeB_iff]
  constructor
  · rintro ⟨h1, h2, h3⟩; exact ⟨by omega, h2, by omega, h3⟩
  · rintro ⟨h1, h2, _, h3⟩; exact ⟨by omega, h2, h3⟩

set_option maxRecDepth 20000 in
set_option maxHeartbeats 4000000 in
theorem passign_any (a : Option Addr) (len cap : Nat) (l : List Rn) (m : Int) (w : World) (h : RowR w a len cap l) :
    Calls Try.prog 12 #[.slice a len cap, .int .i64 m] w (AsgG w l m) := by
  have H := Lib.hid h
  have LN := Lib.hid h.len
  have ⟨c1, c2⟩ := h.cap_le
  clear h
  obtain ⟨i0, hi, hz0, hz1, hz2⟩ := info_parts Try.infoI
  have hmk := fun W (hl : len ≤ 1024) => run_make_rowN (P := Try.prog) 23 3 i0 _ Try.underlying23 hi hz0 .i64 .i64 len len (Nat.le_refl _) (by rw [hz2]; omega) (by omega) W
  rw [hz1] at hmk
  clear hi hz0 hz1 hz2
  go_enter Try.func12, Try.ntmps12
  go_wp2_with fail
  refine (pcheck_any a len cap l m w H.out).mono ?_
  rintro e w1 ⟨rfl, hb1⟩
  have B1 := Lib.hid hb1
  clear hb1
  cases hmb : mayB l m with
  | false =>
    have VL := Lib.hid (show asgL l m = [] by unfold asgL; rw [hmb]; rfl)
    have VE := Lib.hid (show asgE l m = 1 by unfold asgE; rw [hmb]; rfl)
    clear hmb hmk
    go_wp2
    go_ret2
    exact ⟨none, 0, 0, by rw [VE.out]; rfl, by rw [VL.out]; exact Row.nil, B1.out⟩
  | true =>
    have MY := Lib.hid (mayB_true.mp hmb)
    have m1 := (mayB_true.mp hmb).m1
    have m2 := (mayB_true.mp hmb).m2
    have lm := (mayB_true.mp hmb).few
    rw [LN.out] at lm
    clear hmb
    obtain ⟨n, rfl⟩ : ∃ n : Nat, m = (n : Int) := ⟨m.toNat, by omega⟩
    have V := Lib.hid (asg_yes MY.out)
    have GE := Lib.hid (outK_ge MY.out len)
    have l1024 : len ≤ 1024 := by omega
    have hmk2 := fun W => (hmk W l1024).trans (by rw [Nat.mul_one, made_ints])
    clear hmk
    go_wp2_with fail
    refine (ptaker_any n w1).mono ?_
    rintro e w2 ⟨v, rfl, htk, hb2, hz2⟩
    have B2 := Lib.hid (below_next B1.out hb2)
    have hfn := htk.fn
    have OS := Lib.hid (own_made w2 len w.heap.size B2.out.size l1024)
    have BS := Lib.hid (wbox w2 (.cells (Array.replicate len (.int .i64 0)) 3))
    have TS := Lib.hid (htk.below BS.out)
    obtain ⟨p, hp⟩ : ∃ p, w1.heap.size = p := ⟨_, rfl⟩
    obtain ⟨g, hg⟩ : ∃ g, w2.heap.size = g := ⟨_, rfl⟩
    have HP := Lib.hid (show w.heap.size ≤ p by rw [← hp]; exact B1.out.size)
    have HG := Lib.hid (show g = p + 2 by rw [← hg, ← hp]; exact hz2)
    have hg' := Lib.hid hg
    rw [hp] at TS hfn
    rw [hg] at OS
    clear htk hb2 hz2 hp hg
    subst hfn
    have K0 := Lib.hid (show OK1 w.heap.size w (w2.alloc (.cells (Array.replicate len (.int .i64 0)) 3)) (.slice (some ⟨g, 0, none⟩) len len) (outP l 0) (.func (.func 26) #[] #[.pointer (some ⟨p, 0, none⟩), .pointer (some ⟨p + 1, 0, none⟩)]) p (p + 1) n (pinsR (l.take 0)) from
      ⟨by rw [outP_zero, LN.out]; exact OS.out, TS.out, (fun e => by have h1 := HG.out; simp [Value.ownBlock] at e; omega), (fun e => by have h1 := HG.out; simp [Value.ownBlock] at e; omega), by have := HP.out; omega, below_next B2.out BS.out, Nat.le_refl _⟩)
    clear OS TS BS
    go_wp2
    rw [hg'.out]
    go_loopw [23] (fun u wr => ∃ i : Nat, u = .int .i64 i ∧ i ≤ len ∧ OK1 w.heap.size w wr (.slice (some ⟨g, 0, none⟩) len len) (outP l i) (.func (.func 26) #[] #[.pointer (some ⟨p, 0, none⟩), .pointer (some ⟨p + 1, 0, none⟩)]) p (p + 1) n (pinsR (l.take i))) (fun u _ => len - (intOf u).toNat)
    case atStart => exact ⟨0, rfl, by omega, K0.out⟩
    case round =>
      obtain ⟨i, rfl, i1, ho⟩ := hrel
      clear K0
      have O := Lib.hid ho
      clear ho hmk2
      by_cases go : i < len
      · have b1 : decide ((i : Int) < (len : Int)) = true := by simp; omega
        have b1' : decide (i < len) = true := by simp; omega
        have iq : i < l.length := by rw [LN.out]; exact go
        obtain ⟨r, hr, -⟩ := getR iq
        have PT := Lib.hid (pin_take MY.out hr)
        have PN := Lib.hid (outP_next hr)
        have PK := Lib.hid (pins_take hr)
        have RM := Lib.hid (MY.out.each r (List.mem_of_getElem? hr))
        have LP := Lib.hid (show (outP l i).length = len by rw [outP_len l (by omega), LN.out])
        have PA := Lib.hid (outP_at iq)
        obtain ⟨ba, oa, rfl, hat⟩ := H.out.at hr
        have XA := Lib.hid (hat.below O.out.bel)
        have x0 := XA.out.c0; have x1 := XA.out.c1; have x2 := XA.out.c2
        have i3 : (i : Int) < (len : Int) := by omega
        have i0 : 0 ≤ (i : Int) := by omega
        obtain ⟨id, pin, z⟩ := r
        replace x0 : wr.cell? ⟨ba, oa + i * 3, none⟩ = some (.int .i64 id) := x0
        replace x1 : wr.cell? ⟨ba, oa + i * 3 + 1, none⟩ = some (.int .i64 pin) := x1
        replace x2 : wr.cell? ⟨ba, oa + i * 3 + 2, none⟩ = some (.int .i64 z) := x2
        obtain ⟨W2, hW2⟩ : ∃ W2, wr.alloc (.cells #[.int .i64 id, .int .i64 pin, .int .i64 z] 39) = W2 := ⟨_, rfl⟩
        have O2 := Lib.hid (show OK1 w.heap.size w W2 _ (outP l i) _ p (p + 1) n _ by rw [← hW2]; exact O.out.below (wbox _ _))
        have R2 := Lib.hid (show Blk W2 39 wr.heap.size #[.int .i64 id, .int .i64 pin, .int .i64 z] by rw [← hW2]; exact Blk.new _ _ _)
        obtain ⟨g', eg, y0, yf, _⟩ := own_some O2.out.o PA.out
        cases eg
        have RB := Lib.hid O.out.t.arr.lt
        have NB := Lib.hid (show ¬ wr.heap.size = g by have h1 := (O.out.o.lt g rfl).2; omega)
        have R3 := Lib.hid (show Blk (W2.setCell ⟨g, i, none⟩ (.int .i64 (-1))) 39 wr.heap.size #[.int .i64 id, .int .i64 pin, .int .i64 z] from (Below.heap_setCell W2 ⟨g, i, none⟩ (.int .i64 (-1)) wr.heap.size (fun e => NB.out e)).trans R2.out)
        have O3 := Lib.hid (O2.out.setO LP.out i (-1))
        have q1 := R3.out.cell 1
        simp at q1
        clear hr hat XA iq
        obtain ⟨tk0, htk0⟩ : ∃ t, pinsR (l.take i) = t := ⟨_, rfl⟩
        obtain ⟨out0, hout0⟩ : ∃ t, outP l i = t := ⟨_, rfl⟩
        rw [htk0] at PT PK O2 O3
        rw [hout0] at PN LP PA O2 O3
        clear htk0 hout0 O
        go_wp2_with fail
        refine (ptake_any O3.out.t pin m2).mono ?_
        rintro e w4 ⟨rfl, htk4, hk4, hz4⟩
        have HT := Lib.hid htk4
        have HK := Lib.hid hk4
        have R4 := Lib.hid (R3.out.keeps hk4 (by have h1 := O3.out.t.arr.lt; have h2 : ¬ wr.heap.size = p + 1 := (fun e => by have h3 := RB.out; omega); exact h2))
        clear htk4 hk4 hz4 hW2 q1 x0 x1 x2
        have q1 := R4.out.cell 1
        simp at q1
        by_cases p0 : 0 ≤ pin
        · have tb : takeB n tk0 pin = true := PT.out.trans (by simp; exact p0)
          have HT2 := Lib.hid (show TkAt w4 _ p (p + 1) n (pinsR (l.take (i + 1))) by have h1 := HT.out; unfold takeL at h1; rw [tb] at h1; rw [PK.out]; show TkAt w4 _ p (p + 1) n (tk0 ++ if 0 ≤ pin then [pin] else []); rw [if_pos p0]; exact h1)
          have O4 := Lib.hid (O3.out.took HT2.out HK.out)
          have LS := Lib.hid (show (out0.set i (-1)).length = len by rw [List.length_set, LP.out])
          have O5 := Lib.hid (O4.out.setO LS.out i pin)
          have PN2 := Lib.hid (show outP l (i + 1) = (out0.set i (-1)).set i pin by rw [PN.out, List.set_set])
          obtain ⟨g', eg, y1, yf1, _⟩ := own_some O4.out.o (i := i) (x := -1) (by rw [List.getElem?_set_self (by rw [LP.out]; exact go)])
          cases eg
          clear HT
          go_wp2
          go_roundw
          case rel => exact ⟨i + 1, by go_num, by omega, by rw [PN2.out]; exact O5.out⟩
          case measure => simp [intOf]; omega
        · have tb : takeB n tk0 pin = false := PT.out.trans (by simp; omega)
          have HT2 := Lib.hid (show TkAt w4 _ p (p + 1) n (pinsR (l.take (i + 1))) by have h1 := HT.out; unfold takeL at h1; rw [tb] at h1; rw [PK.out]; show TkAt w4 _ p (p + 1) n (tk0 ++ if 0 ≤ pin then [pin] else []); rw [if_neg p0, List.append_nil]; exact h1)
          have O4 := Lib.hid (O3.out.took HT2.out HK.out)
          have PN2 := Lib.hid (show outP l (i + 1) = out0.set i (-1) by rw [PN.out]; show out0.set i pin = _; have h1 : -1 ≤ pin := RM.out.1; rw [show pin = -1 by omega])
          clear HT
          go_wp2
          go_roundw
          case rel => exact ⟨i + 1, by go_num, by omega, by rw [PN2.out]; exact O4.out⟩
          case measure => simp [intOf]; omega
      · have b1 : decide ((i : Int) < (len : Int)) = false := by simp; omega
        have b1' : decide (i < len) = false := by simp; omega
        have ie : i = l.length := by rw [LN.out]; omega
        have O := Lib.hid (show OK1 w.heap.size w wr _ (outK l 0) _ p (p + 1) n (tkK l 0) by have h1 := O.out; rw [ie, outP_end, List.take_length] at h1; rw [outK_zero, tkK_zero]; exact h1)
        clear ie
        go_wp2
        clear b1 b1' i1 go
        go_loopw [43] (fun u wx => ∃ j : Nat, u = .int .i64 j ∧ j ≤ len ∧ OK1 w.heap.size w wx (.slice (some ⟨g, 0, none⟩) len len) (outK l j) (.func (.func 26) #[] #[.pointer (some ⟨p, 0, none⟩), .pointer (some ⟨p + 1, 0, none⟩)]) p (p + 1) n (tkK l j)) (fun u _ => len - (intOf u).toNat)
        case atStart => exact ⟨0, rfl, by omega, O.out⟩
        case round =>
          obtain ⟨j, rfl, j1, ho⟩ := hrel
          clear O
          have O := Lib.hid ho
          clear ho
          by_cases go : j < len
          · have b1 : decide ((j : Int) < (len : Int)) = true := by simp; omega
            have b1' : decide (j < len) = true := by simp; omega
            obtain ⟨r, hr, -⟩ := getR (l := l) (i := j) (by rw [LN.out]; exact go)
            have RM := Lib.hid (MY.out.each r (List.mem_of_getElem? hr))
            have KY := Lib.hid (fun (c : r.pin = -1 ∧ takeB n (tkK l j) r.last = true) => outK_yes hr ((keepC_take RM.out).mpr c))
            have KN := Lib.hid (fun (c : ¬ (r.pin = -1 ∧ takeB n (tkK l j) r.last = true)) => outK_no hr (fun q => c ((keepC_take RM.out).mp q)))
            have LO := Lib.hid (show (outK l j).length = len by rw [outK_len, LN.out])
            have PA := Lib.hid (outK_at hr)
            obtain ⟨ba, oa, rfl, hat⟩ := H.out.at hr
            have XA := Lib.hid (hat.below O.out.bel)
            have x0 := XA.out.c0; have x1 := XA.out.c1; have x2 := XA.out.c2
            have i3 : (j : Int) < (len : Int) := by omega
            have i0 : 0 ≤ (j : Int) := by omega
            obtain ⟨id, pin, z⟩ := r
            replace x0 : wr.cell? ⟨ba, oa + j * 3, none⟩ = some (.int .i64 id) := x0
            replace x1 : wr.cell? ⟨ba, oa + j * 3 + 1, none⟩ = some (.int .i64 pin) := x1
            replace x2 : wr.cell? ⟨ba, oa + j * 3 + 2, none⟩ = some (.int .i64 z) := x2
            obtain ⟨W2, hW2⟩ : ∃ W2, wr.alloc (.cells #[.int .i64 id, .int .i64 pin, .int .i64 z] 39) = W2 := ⟨_, rfl⟩
            have O2 := Lib.hid (show OK1 w.heap.size w W2 _ (outK l j) _ p (p + 1) n _ by rw [← hW2]; exact O.out.below (wbox _ _))
            have R2 := Lib.hid (show Blk W2 39 wr.heap.size #[.int .i64 id, .int .i64 pin, .int .i64 z] by rw [← hW2]; exact Blk.new _ _ _)
            have RB := Lib.hid O.out.t.arr.lt
            obtain ⟨g', eg, y0, yf, _⟩ := own_some O2.out.o PA.out
            cases eg
            replace y0 : W2.cell? ⟨g, j, none⟩ = some (.int .i64 pin) := y0
            have q2 := R2.out.cell 2
            simp at q2
            obtain ⟨outs, hos⟩ : ∃ o, outK l j = o := ⟨_, rfl⟩
            obtain ⟨tks, htk⟩ : ∃ o, tkK l j = o := ⟨_, rfl⟩
            rw [hos] at KY KN O2 LO PA
            rw [htk] at KY KN O2
            clear hr hat XA hos htk O
            by_cases p0 : pin = -1
            · have b2 : (pin == -1) = true := by simp [p0]
              have P0 := Lib.hid p0
              clear p0
              go_wp2_with fail
              refine (ptake_any O2.out.t z m2).mono ?_
              rintro e w4 ⟨rfl, htk4, hk4, hz4⟩
              have HT := Lib.hid htk4
              have HK := Lib.hid hk4
              have R4 := Lib.hid (R2.out.keeps hk4 (fun e => by have h1 := RB.out; have h2 : wr.heap.size = p + 1 := e; omega))
              clear htk4 hk4 hz4 hW2 q2 x0 x1 x2 y0
              have q2 := R4.out.cell 2
              simp at q2
              cases htb : takeB n tks z with
              | true =>
                have NX := Lib.hid (KY.out ⟨P0.out, htb⟩)
                have HT2 := Lib.hid (show TkAt w4 _ p (p + 1) n (tkK l (j + 1)) by have h1 := HT.out; unfold takeL at h1; rw [htb] at h1; rw [NX.out.2]; exact h1)
                have O4 := Lib.hid (O2.out.took HT2.out HK.out)
                have O5 := Lib.hid (O4.out.setO LO.out j z)
                obtain ⟨g', eg, y1, yf1, _⟩ := own_some O4.out.o PA.out
                cases eg
                clear HT htb
                go_wp2
                go_roundw
                case rel => exact ⟨j + 1, by go_num, by omega, by rw [NX.out.1]; exact O5.out⟩
                case measure => simp [intOf]; omega
              | false =>
                have NX := Lib.hid (KN.out (fun q => by have h1 : takeB n tks z = true := q.2; rw [htb] at h1; cases h1))
                have HT2 := Lib.hid (show TkAt w4 _ p (p + 1) n (tkK l (j + 1)) by have h1 := HT.out; unfold takeL at h1; rw [htb] at h1; rw [NX.out.2]; exact h1)
                have O4 := Lib.hid (O2.out.took HT2.out HK.out)
                clear HT htb
                go_wp2
                go_roundw
                case rel => exact ⟨j + 1, by go_num, by omega, by rw [NX.out.1]; exact O4.out⟩
                case measure => simp [intOf]; omega
            · have b2 : (pin == -1) = false := by simp [p0]
              have NX := Lib.hid (KN.out (fun q => p0 q.1))
              have O4 := Lib.hid (show OK1 w.heap.size w W2 _ (outK l (j + 1)) _ p (p + 1) n (tkK l (j + 1)) by rw [NX.out.1, NX.out.2]; exact O2.out)
              go_wp2
              go_roundw
              case rel => exact ⟨j + 1, by go_num, by omega, O4.out⟩
              case measure => simp [intOf]; omega
          · have b1 : decide ((j : Int) < (len : Int)) = false := by simp; omega
            have b1' : decide (j < len) = false := by simp; omega
            have je : j = l.length := by rw [LN.out]; omega
            have ASG := Lib.hid (show restR n (outK l j) (tkK l j) = assignR l n by
              rw [je, outK_end, tkK_end]; rfl)
            have LJ := Lib.hid (show (outK l j).length = len by rw [outK_len, LN.out])
            have GJ := Lib.hid (show ∀ c ∈ outK l j, -1 ≤ c by rw [je, LN.out]; exact GE.out)
            clear je
            have OO := Lib.hid (show OK1 w.heap.size wr wr (.slice (some ⟨g, 0, none⟩) len len) (outK l j) (.func (.func 26) #[] #[.pointer (some ⟨p, 0, none⟩), .pointer (some ⟨p + 1, 0, none⟩)]) p (p + 1) n (tkK l j) from ⟨O.out.o, O.out.t, O.out.nq, O.out.np, O.out.bq, Below.refl _ _, O.out.bel.size⟩)
            go_wp2_with fail
            refine (pfill_any (some ⟨g, 0, none⟩) len len (outK l j) n w.heap.size p (p + 1) (tkK l j) wr (by omega) LJ.out l1024 GJ.out OO.out).mono ?_
            rintro e w5 ⟨rfl, how, hb5⟩
            rw [ASG.out] at how
            have EL := Lib.hid (show (assignR l n).length = len by rw [assign_len, LN.out])
            obtain ⟨a2, c2', hv2, hr2, _⟩ := row_of_owns how
            have RR := Lib.hid hr2
            have B5 := Lib.hid (O.out.bel.trans hb5)
            simp only [Value.slice.injEq] at hv2
            obtain ⟨rfl, -, rfl⟩ := hv2
            clear hr2 how hb5
            go_wp2
            go_ret2
            exact ⟨some ⟨g, 0, none⟩, len, len, by rw [V.out.2]; rfl, by rw [V.out.1]; exact RR.out, B5.out⟩
end Go.Proofs.Ytokmkfoofgiddaa

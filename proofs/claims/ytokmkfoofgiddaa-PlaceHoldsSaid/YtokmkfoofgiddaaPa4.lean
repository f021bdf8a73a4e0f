/-
  A set of numbers in memory (a map to the empty struct): read, added to; package place's Check: contract.
-/
import Derived.Test.YtokmkfoofgiddaaPa3
import Derived.Maps.RangeRun
import Derived.ChangeMaps5
namespace Go.Proofs.Ytokmkfoofgiddaa
open Go.RowKit

/-! ### a set -/
def kvE (e : MapEntry) : Value × Value := (e.key, e.val)
def setkv (id : Int) : Value × Value := (.int .i64 id, .agg #[])
theorem findNow_S (id : Int) (es : List MapEntry) (ids : List Int) (i : Nat) (q : es.map kvE = ids.map setkv) : Instr.findNow (.int .i64) (.int .i64 id) es i = some ((ids.findIdx? (fun x => decide (x = id))).map fun j => (i + j, .agg #[])) := by
  induction es generalizing ids i with
  | nil =>
    cases ids with
    | nil => rfl
    | cons h hs => cases q
  | cons e es ih =>
    cases ids with
    | nil => cases q
    | cons h hs =>
      rw [List.map_cons, List.map_cons] at q
      obtain ⟨h1, h2⟩ := List.cons.inj q
      have q1 := (Prod.mk.inj h1).1
      have q2 := (Prod.mk.inj h1).2
      have hi := ih hs (i + 1) h2
      rw [List.findIdx?_cons]
      by_cases k : h = id
      · simp [Instr.findNow, Instr.sameNow, q1, q2, k]
      · have k' : ¬ id = h := fun e => k e.symm
        simp only [Instr.findNow, Instr.sameNow, q1, if_true, beq_eq_false_iff_ne.mpr k', k, decide_false]
        rw [hi]
        cases hs.findIdx? (fun x => decide (x = id)) with
        | none => rfl
        | some j => simp only [Option.map_some]; rw [show i + 1 + j = i + (j + 1) by omega]; rfl
/-- the block m is a set of these numbers -/
structure SetM' (w : World) (m : Nat) (ids : List Int) (es : Array MapEntry) (clock : Nat) : Prop where
  blk : w.heap[m]? = some (.map es clock)
  kv : es.toList.map kvE = ids.map setkv
  born : ∀ x ∈ es.toList, x.born < clock
  nodup : (es.toList.map (·.born)).Nodup
def SetM (w : World) (m : Nat) (ids : List Int) : Prop := ∃ es clock, SetM' w m ids es clock
theorem SetM.lt {w : World} {m : Nat} {ids : List Int} (h : SetM w m ids) : m < w.heap.size := by
  obtain ⟨es, clock, hb, _⟩ := h
  exact (Array.getElem?_eq_some_iff.1 hb).1
theorem SetM.of_block {w w' : World} {m : Nat} {ids : List Int} (h : SetM w m ids) (hb : w'.heap[m]? = w.heap[m]?) : SetM w' m ids := by
  obtain ⟨es, clock, h1, h2, h3, h4⟩ := h
  exact ⟨es, clock, hb.trans h1, h2, h3, h4⟩
theorem SetM.keeps {w w' : World} {m : Nat} {ids : List Int} {G : Nat → Prop} (h : SetM w m ids) (k : Keeps G w w') (hG : ¬ G m) : SetM w' m ids := h.of_block (k.block m h.lt hG)
theorem SetM.below {w w' : World} {m : Nat} {ids : List Int} (h : SetM w m ids) (k : Below w.heap.size w w') : SetM w' m ids := h.of_block (k.block m h.lt)
theorem isKeyI (id : Int) : MapKept.IsKey (.int .i64) (.int .i64 id) := rfl
theorem find_not {ids : List Int} {id : Int} (h : id ∉ ids) : ids.findIdx? (fun x => decide (x = id)) = none := by
  rw [List.findIdx?_eq_none_iff]
  intro x hx
  simp
  rintro rfl
  exact h hx
theorem find_is {ids : List Int} {id : Int} (h : id ∈ ids) : ∃ j, ids.findIdx? (fun x => decide (x = id)) = some j := by
  cases e : ids.findIdx? (fun x => decide (x = id)) with
  | some j => exact ⟨j, rfl⟩
  | none =>
    have := (List.findIdx?_eq_none_iff.mp e) id h
    simp at this
theorem lookS_no {w : World} {m : Nat} {ids : List Int} {id : Int} (h : SetM w m ids) (hf : id ∉ ids) : (Instr.lookup 48 (.map (some m)) (.int .i64 id) true).run Try.prog w = .ok (.tuple #[.agg #[], .bool false]) w := by
  obtain ⟨es, clock, h1, h2, _⟩ := h
  have k := findNow_S id es.toList ids 0 h2
  rw [find_not hf] at k
  simp [Instr.lookup, run_underlying Try.underlying48, MapKept.run_getObj_map h1, MapKept.run_checkKey Try.underlying3 (isKeyI id), MapKept.run_findKey Try.underlying3 k, Result.andThen]
theorem lookS_yes {w : World} {m : Nat} {ids : List Int} {id : Int} (h : SetM w m ids) (hf : id ∈ ids) : (Instr.lookup 48 (.map (some m)) (.int .i64 id) true).run Try.prog w = .ok (.tuple #[.agg #[], .bool true]) w := by
  obtain ⟨es, clock, h1, h2, _⟩ := h
  have k := findNow_S id es.toList ids 0 h2
  obtain ⟨j, hj⟩ := find_is hf
  rw [hj] at k
  simp only [Option.map_some] at k
  simp [Instr.lookup, run_underlying Try.underlying48, MapKept.run_getObj_map h1, MapKept.run_checkKey Try.underlying3 (isKeyI id), MapKept.run_findKey Try.underlying3 k, Result.andThen]
/-- a block written, all else as it was -/
theorem keeps_setBlock {w : World} {b : Nat} {F : Nat → Prop} (hF : F b) (o : Obj) : Keeps F w (ChangeMaps.setBlock w b o) :=
  ⟨rfl, rfl, rfl, by simp [ChangeMaps.setBlock], fun k _ hk => by
    have : b ≠ k := fun e => hk (e ▸ hF)
    simp [ChangeMaps.setBlock, Array.getElem?_setIfInBounds_ne this]⟩
theorem size_setBlock (w : World) (b : Nat) (o : Obj) : (ChangeMaps.setBlock w b o).heap.size = w.heap.size := by simp [ChangeMaps.setBlock]
theorem putS_new {w : World} {m : Nat} {ids : List Int} {id : Int} (h : SetM w m ids) (hf : id ∉ ids) : ∃ w', (Instr.mapUpdate 48 (.map (some m)) (.int .i64 id) (.agg #[])).run Try.prog w = .ok () w' ∧ SetM w' m (ids ++ [id]) ∧ Keeps (fun k => k = m) w w' ∧ w'.heap.size = w.heap.size := by
  obtain ⟨es, clock, h1, h2, h3, h4⟩ := h
  have k := findNow_S id es.toList ids 0 h2
  rw [find_not hf] at k
  refine ⟨ChangeMaps.setBlock w m (.map (es.push { key := .int .i64 id, val := .agg #[], born := clock }) (clock + 1)), ?_, ⟨_, _, (MapKept.heap_set h1).1, ?_, ?_, ?_⟩, keeps_setBlock (F := fun k => k = m) rfl _, size_setBlock _ _ _⟩
  · simp [Instr.mapUpdate, run_underlying Try.underlying48, MapKept.run_getObj_map h1, MapKept.run_checkKey Try.underlying3 (isKeyI id), MapKept.run_findKey Try.underlying3 k, MapKept.run_setObj_map _ h1, Result.andThen, ChangeMaps.setBlock]
  · rw [Array.toList_push, List.map_append, List.map_append, h2]; rfl
  · intro x hx
    rw [Array.toList_push] at hx
    rcases List.mem_append.mp hx with q | q
    · have := h3 x q; omega
    · simp at q; subst q; exact Nat.lt_succ_self _
  · rw [Array.toList_push, List.map_append]
    refine List.nodup_append.mpr ⟨h4, by simp, fun a ha b hb => ?_⟩
    obtain ⟨x, hx, rfl⟩ := List.mem_map.mp ha
    simp at hb
    have := h3 x hx
    omega
theorem set_new (w : World) : SetM (w.alloc (.map #[] 0)) w.heap.size [] := ⟨#[], 0, heap_alloc_new _ _, rfl, by simp, by simp⟩
theorem run_makeMap_hint {P : Program} (t k e : TypeId) (kd : IntKind) (n : Int) (ht : P.underlying t = some (.map k e)) (w : World) :
    (Instr.makeMap t (some (.int kd n))).run P w = .ok (.map (some w.heap.size)) (w.alloc (.map #[] 0)) := by
  simp [Instr.makeMap, run_underlying ht]; rfl
/-! ### plain -/
theorem pins_append (x y : List Rn) : pinsR (x ++ y) = pinsR x ++ pinsR y := by unfold pinsR; rw [List.map_append, List.filter_append]
theorem pins_one (r : Rn) : pinsR [r] = if 0 ≤ r.pin then [r.pin] else [] := by rw [pins_cons]; rfl
theorem mem_pins {l : List Rn} {c : Int} : c ∈ pinsR l ↔ 0 ≤ c ∧ ∃ x ∈ l, x.pin = c := by
  unfold pinsR
  rw [List.mem_filter, List.mem_map]
  simp only [decide_eq_true_eq]
  exact ⟨fun ⟨h, g⟩ => ⟨g, h⟩, fun ⟨g, h⟩ => ⟨h, g⟩⟩
def idsR (l : List Rn) : List Int := l.map Rn.id
theorem take_yes {pre : List Rn} {m : Int} {r : Rn} (h : takeB m (pinsR pre) r.pin = true) : (0 ≤ r.pin ∧ r.pin < m ∧ r.pin ∉ pinsR pre) := by
  unfold takeB at h
  simp only [Bool.and_eq_true, decide_eq_true_eq, Bool.not_eq_true', decide_eq_false_iff_not] at h
  exact ⟨h.1.1, h.1.2, h.2⟩
theorem take_not {pre : List Rn} {m : Int} {r : Rn} (h : takeB m (pinsR pre) r.pin = false) (hn : r.pin ≠ -1) : ¬ FineR pre m r := fun q => by
  have g := q.rng
  have : r.pin ∈ pinsR pre := by
    refine Classical.byContradiction fun hm => ?_
    unfold takeB at h
    have h1 : 0 ≤ r.pin := by omega
    have h2 : r.pin < m := by omega
    simp [h1, h2, hm] at h
  obtain ⟨h0, x, hx, e⟩ := mem_pins.mp this
  have := q.pin x hx e
  omega

set_option maxRecDepth 20000 in
set_option maxHeartbeats 4000000 in
theorem pcheck_any (a : Option Addr) (len cap : Nat) (l : List Rn) (m : Int) (w : World) (h : RowR w a len cap l) :
    Calls Try.prog 18 #[.slice a len cap, .int .i64 m] w fun e w' => e = .returned (.bool (mayB l m)) ∧ Below w.heap.size w w' := by
  have H := Lib.hid h
  have LN := Lib.hid h.len
  have ⟨c1, c2⟩ := h.cap_le
  clear h
  by_cases m1 : 1 ≤ m
  · have t1 : decide (m < 1) = false := by simp; omega
    by_cases m2 : m ≤ 1024
    · have t2 : decide (1024 < m) = false := by simp; omega
      by_cases m3 : (len : Int) ≤ m
      · have t3 : decide (m < (len : Int)) = false := by simp; omega
        have MB := Lib.hid (show ToR l m len → mayB l m = true from fun q => mayB_yes (may_iff.mpr ⟨m1, m2, by rw [LN.out]; exact m3, by rw [LN.out]; exact q⟩))
        have hmm := fun n W => run_makeMap_hint (P := Try.prog) 48 3 49 .i64 n Try.underlying48 W
        go_enter Try.func18, Try.ntmps18
        go_wp2_with fail
        refine (ptaker_any m w).mono ?_
        rintro e w1 ⟨v, rfl, htk, hb1, hz1⟩
        have TK1 := Lib.hid (htk.below (wbox w1 (.map #[] 0)))
        have B1 := Lib.hid (below_next hb1 (wbox w1 (.map #[] 0)))
        have S1 := Lib.hid (set_new w1)
        have hfn := htk.fn
        obtain ⟨p, hp⟩ : ∃ p, w.heap.size = p := ⟨_, rfl⟩
        obtain ⟨q, hq⟩ : ∃ q, w1.heap.size = q := ⟨_, rfl⟩
        have PQ := Lib.hid (show q = p + 2 by rw [← hq, ← hp]; exact hz1)
        have HP := Lib.hid hp
        rw [hp] at TK1 hfn
        rw [hq] at S1
        clear htk hb1 hz1 hp
        subst hfn
        have HQ := Lib.hid hq
        clear hq
        go_wp2
        rw [HQ.out]
        go_loopw [30] (fun u wr => ∃ i : Nat, u = .int .i64 i ∧ i ≤ len ∧ ToR l m i ∧ TkAt wr (.func (.func 26) #[] #[.pointer (some ⟨p, 0, none⟩), .pointer (some ⟨p + 1, 0, none⟩)]) p (p + 1) m (pinsR (l.take i)) ∧ SetM wr q (idsR (l.take i)) ∧ Below w.heap.size w wr) (fun u _ => len - (intOf u).toNat)
        case atStart => exact ⟨0, rfl, by omega, to_zero _ _, TK1.out, S1.out, B1.out⟩
        case round =>
          obtain ⟨i, rfl, i1, ht, htk, hs, hb⟩ := hrel
          have T := Lib.hid ht
          have B := Lib.hid hb
          have TK := Lib.hid htk
          have S := Lib.hid hs
          clear ht hb htk hs
          by_cases go : i < len
          · have b1 : decide ((i : Int) < (len : Int)) = true := by simp; omega
            have b1' : decide (i < len) = true := by simp; omega
            have iq : i < l.length := by rw [LN.out]; exact go
            obtain ⟨r, hr, hts⟩ := getR iq
            have TS := Lib.hid hts
            have NO := Lib.hid (fun (q : ¬ FineR (l.take i) m r) => may_not iq hts q)
            have ST := Lib.hid (fun (q : FineR (l.take i) m r) => (to_step hts).mpr ⟨T.out, q⟩)
            have TN := Lib.hid (fun (h1 : takeB m (pinsR (l.take i)) r.pin = false) (h2 : r.pin ≠ -1) => take_not h1 h2)
            have TY := Lib.hid (fun (h1 : takeB m (pinsR (l.take i)) r.pin = true) => take_yes h1)
            have PN := Lib.hid (show pinsR (l.take (i + 1)) = pinsR (l.take i) ++ pinsR [r] by rw [hts, pins_append])
            have IN := Lib.hid (show idsR (l.take (i + 1)) = idsR (l.take i) ++ [r.id] by rw [hts]; unfold idsR; rw [List.map_append]; rfl)
            obtain ⟨ba, oa, rfl, hat⟩ := H.out.at hr
            have XA := Lib.hid (hat.below B.out)
            have x0 := XA.out.c0; have x1 := XA.out.c1; have x2 := XA.out.c2
            have i3 : (i : Int) < (len : Int) := by omega
            have i0 : 0 ≤ (i : Int) := by omega
            rw [pins_one] at PN
            obtain ⟨id, pin, z⟩ := r
            replace x0 : wr.cell? ⟨ba, oa + i * 3, none⟩ = some (.int .i64 id) := x0
            replace x1 : wr.cell? ⟨ba, oa + i * 3 + 1, none⟩ = some (.int .i64 pin) := x1
            replace x2 : wr.cell? ⟨ba, oa + i * 3 + 2, none⟩ = some (.int .i64 z) := x2
            obtain ⟨W2, hW2⟩ : ∃ W2, (wr.alloc (.cells #[.int .i64 id, .int .i64 pin, .int .i64 z] 39)) = W2 := ⟨_, rfl⟩
            have BW2 := Lib.hid (show Below wr.heap.size wr W2 by rw [← hW2]; exact wbox _ _)
            have S2 := Lib.hid (S.out.below BW2.out)
            have Z2 := Lib.hid (show W2.heap.size = wr.heap.size + 1 by rw [← hW2]; simp)
            have R2 := Lib.hid (show Blk W2 39 wr.heap.size #[.int .i64 id, .int .i64 pin, .int .i64 z] by rw [← hW2]; exact Blk.new _ _ _)
            clear hr hts hat XA iq
            have r0 := R2.out.cell 0; have r1 := R2.out.cell 1; have r2 := R2.out.cell 2
            simp at r0 r1 r2
            by_cases e1 : id ∈ idsR (l.take i)
            · have hl := lookS_yes S2.out e1
              have V := Lib.hid (NO.out fun g => by
                obtain ⟨x, hx, he⟩ := List.mem_map.mp e1
                exact g.id x hx he)
              go_wp2
              go_ret
              exact ⟨ret_b V.out.symm, below_next (below_next B.out BW2.out) (wbox _ _)⟩
            · have hl := lookS_no S2.out e1
              have B3 := Lib.hid (below_next (below_next B.out BW2.out) (wbox W2 (.cells #[] 49)))
              have R3 := Lib.hid (R2.out.alloc (.cells #[] 49))
              have q0 := R3.out.cell 0; have q1 := R3.out.cell 1; have q2 := R3.out.cell 2
              simp at q0 q1 q2
              have TK3 := Lib.hid ((TK.out.below BW2.out).below (wbox W2 (.cells #[] 49)))
              have S3 := Lib.hid (S2.out.below (wbox W2 (.cells #[] 49)))
              have EI := Lib.hid e1
              by_cases p3 : z < -1
              · have b4 : decide (z < -1) = true := by simp; omega
                have V := Lib.hid (NO.out (not_fine (.inr (.inr (.inl p3)))))
                go_wp2
                go_ret
                exact ⟨ret_b V.out.symm, B3.out⟩
              · have b4 : decide (z < -1) = false := by simp; omega
                by_cases p4 : m ≤ z
                · have b5 : decide (m ≤ z) = true := by simp; omega
                  have V := Lib.hid (NO.out (not_fine (.inr (.inr (.inr p4)))))
                  go_wp2
                  go_ret
                  exact ⟨ret_b V.out.symm, B3.out⟩
                · have b5 : decide (m ≤ z) = false := by simp; omega
                  by_cases p5 : pin = -1
                  · have b6 : (pin != -1) = false := by simp [p5]
                    have TNX := Lib.hid (ST.out ⟨by show -1 ≤ pin ∧ pin < m ∧ -1 ≤ z ∧ z < m; omega, fun x hx he => e1 (List.mem_map.mpr ⟨x, hx, he⟩), fun x hx he => by have h1 : x.pin = pin := he; omega⟩)
                    have PNX := Lib.hid (show pinsR (l.take (i + 1)) = pinsR (l.take i) by rw [PN.out, if_neg (show ¬ 0 ≤ pin by omega), List.append_nil])
                    have S4 := S3; have TK4 := TK3; have B4 := B3
                    obtain ⟨W5, hW5, hs5, hk5, hz5⟩ := putS_new S4.out e1
                    have S5 := Lib.hid hs5
                    have TK5 := Lib.hid (TK4.out.keeps hk5 (by have := PQ.out; omega) (by have := PQ.out; omega))
                    have B5 := Lib.hid (hk5.below B4.out (fun k (e : k = q) => by have h1 := PQ.out; have h2 := HP.out; omega) B4.out.size)
                    clear hs5 hk5 hz5
                    clear p3 p4 p5
                    go_wp2
                    go_roundw
                    case rel => exact ⟨i + 1, by go_num, by omega, TNX.out, by rw [PNX.out]; exact TK5.out, by rw [IN.out]; exact S5.out, B5.out⟩
                    case measure => simp [intOf]; omega
                  · have b6 : (pin != -1) = true := by simp [p5]
                    go_wp2_with fail
                    refine (ptake_any TK3.out pin m2).mono ?_
                    rintro e W4 ⟨rfl, htk4, hk4, hz4⟩
                    have S4 := Lib.hid (S3.out.keeps hk4 (by have := PQ.out; omega))
                    have B4 := Lib.hid (hk4.below B3.out (fun k (e : k = p + 1) => by have h2 := HP.out; omega) B3.out.size)
                    have R4 := Lib.hid (R3.out.keeps hk4 (by have h1 := TK.out.arr.lt; omega))
                    have HT := Lib.hid htk4
                    clear htk4 hk4 hz4 q0 q1 q2 r0 r1 r2
                    have q0 := R4.out.cell 0
                    simp at q0
                    cases htb : takeB m (pinsR (l.take i)) pin with
                    | false =>
                      have V := Lib.hid (NO.out (TN.out htb p5))
                      clear htb
                      go_wp2
                      go_ret
                      exact ⟨ret_b V.out.symm, B4.out⟩
                    | true =>
                      have TY2 := Lib.hid (TY.out htb)
                      have TK4 := Lib.hid (by have h1 := HT.out; unfold takeL at h1; rwa [htb] at h1)
                      have PNX := Lib.hid (show pinsR (l.take (i + 1)) = pinsR (l.take i) ++ [pin] by rw [PN.out, if_pos TY2.out.1])
                      have TNX := Lib.hid (ST.out ⟨by have h1 := TY2.out; show -1 ≤ pin ∧ pin < m ∧ -1 ≤ z ∧ z < m; have h2 : 0 ≤ pin := h1.1; have h3 : pin < m := h1.2.1; omega, fun x hx he => e1 (List.mem_map.mpr ⟨x, hx, he⟩), fun x hx he => absurd (mem_pins.mpr ⟨TY2.out.1, x, hx, he⟩) TY2.out.2.2⟩)
                      clear htb
                      obtain ⟨W5, hW5, hs5, hk5, hz5⟩ := putS_new S4.out e1
                      have S5 := Lib.hid hs5
                      have TK5 := Lib.hid (TK4.out.keeps hk5 (by have := PQ.out; omega) (by have := PQ.out; omega))
                      have B5 := Lib.hid (hk5.below B4.out (fun k (e : k = q) => by have h1 := PQ.out; have h2 := HP.out; omega) B4.out.size)
                      clear hs5 hk5 hz5
                      clear p3 p4 p5
                      go_wp2
                      go_roundw
                      case rel => exact ⟨i + 1, by go_num, by omega, TNX.out, by rw [PNX.out]; exact TK5.out, by rw [IN.out]; exact S5.out, B5.out⟩
                      case measure => simp [intOf]; omega
          · have b1 : decide ((i : Int) < (len : Int)) = false := by simp; omega
            have b1' : decide (i < len) = false := by simp; omega
            have V := Lib.hid (MB.out (by rw [show len = i by omega]; exact T.out))
            go_wp2
            go_ret
            exact ⟨ret_b V.out.symm, B.out⟩
      · have t3 : decide (m < (len : Int)) = true := by simp; omega
        have V := Lib.hid (show mayB l m = false from mayB_no fun q => by have h1 := q.few; rw [LN.out] at h1; exact m3 h1)
        go_enter Try.func18, Try.ntmps18
        go_wp2
        go_ret
        exact ⟨ret_b V.out.symm, Below.refl _ _⟩
    · have t2 : decide (1024 < m) = true := by simp; omega
      have V := Lib.hid (show mayB l m = false from mayB_no fun q => m2 q.m2)
      go_enter Try.func18, Try.ntmps18
      go_wp2
      go_ret
      exact ⟨ret_b V.out.symm, Below.refl _ _⟩
  · have t1 : decide (m < 1) = true := by simp; omega
    have V := Lib.hid (show mayB l m = false from mayB_no fun q => m1 q.m1)
    go_enter Try.func18, Try.ntmps18
    go_wp2
    go_ret
    exact ⟨ret_b V.out.symm, Below.refl _ _⟩
end Go.Proofs.Ytokmkfoofgiddaa

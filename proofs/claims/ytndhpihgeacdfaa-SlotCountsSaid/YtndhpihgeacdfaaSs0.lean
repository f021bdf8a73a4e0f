/-
  Slots and runs: who may be; in memory; the document's Check (regattaref16): contract.
-/
import Derived.Test.YtndhpihgeacdfaaSep
import Derived.Deep.DeepCutAuto
import Derived.Deep.RegionHeld3
namespace Go.Proofs.Ytndhpihgeacdfaa
open Go.RowKit

theorem ret_b {x y : Bool} (h : x = y) : Ending.returned (.bool x) = .returned (.bool y) := by rw [h]
theorem cell_on {w w2 : World} {p : Addr} {v : Value} (hb : Below w.heap.size w w2) (h : w.cell? p = some v) : w2.cell? p = some v := (hb.cell (World.block_lt_of_cell? _ _ h)).trans h
theorem bdN {B : Nat} {a w : World} (h : Below B a w) (n : Nat) : Below B a (w.drewN n) := ⟨h.os, h.tape, h.output, h.size, h.block⟩
theorem lt_of_get {α : Type} {l : List α} {i : Nat} {x : α} (h : l[i]? = some x) : i < l.length := by
  rcases Nat.lt_or_ge i l.length with g | g
  · exact g
  · rw [List.getElem?_eq_none g] at h; cases h
theorem get_of {α : Type} {l : List α} {i : Nat} (hi : i < l.length) : ∃ r, l[i]? = some r ∧ l.take (i + 1) = l.take i ++ [r] :=
  ⟨l[i], List.getElem?_eq_getElem hi, by rw [List.take_succ_eq_append_getElem hi]⟩
/-! ### plain -/
structure Ru where
  id : Int
  core : Int
  idx : Int
structure Sk where
  tm : Int
  runs : List Ru
/-- the first i runs may be -/
structure ToU (l : List Ru) (m : Int) (i : Nat) : Prop where
  each : ∀ r ∈ l.take i, 0 ≤ r.core ∧ r.core < m ∧ 0 ≤ r.id ∧ r.id ≤ 1023 ∧ 1 ≤ r.idx ∧ r.idx ≤ 1099511627776
  ids : (l.take i).Pairwise fun a b => a.id ≠ b.id
  cores : (l.take i).Pairwise fun a b => a.core < b.core
/-- so may the next one -/
structure FineU (pre : List Ru) (m : Int) (r : Ru) : Prop where
  rng : 0 ≤ r.core ∧ r.core < m ∧ 0 ≤ r.id ∧ r.id ≤ 1023 ∧ 1 ≤ r.idx ∧ r.idx ≤ 1099511627776
  id : ∀ x ∈ pre, x.id ≠ r.id
  core : ∀ x ∈ pre, x.core < r.core
theorem tou_zero (l : List Ru) (m : Int) : ToU l m 0 := ⟨by simp, by simp, by simp⟩
theorem tou_step {l : List Ru} {m : Int} {i : Nat} {r : Ru} (h : l.take (i + 1) = l.take i ++ [r]) : ToU l m (i + 1) ↔ ToU l m i ∧ FineU (l.take i) m r := by
  constructor
  · rintro ⟨h1, h2, h3⟩
    rw [h] at h1 h2 h3
    rw [List.pairwise_append] at h2 h3
    exact ⟨⟨fun x hx => h1 x (List.mem_append_left _ hx), h2.1, h3.1⟩, ⟨h1 r (by simp), fun x hx => h2.2.2 x hx r (by simp), fun x hx => h3.2.2 x hx r (by simp)⟩⟩
  · rintro ⟨⟨h1, h2, h3⟩, h4, h5, h6⟩
    refine ⟨fun x hx => ?_, ?_, ?_⟩
    · rw [h] at hx
      rcases List.mem_append.mp hx with q | q
      · exact h1 x q
      · have : x = r := by simpa using q
        rw [this]; exact h4
    · rw [h, List.pairwise_append]
      exact ⟨h2, by simp, fun x hx y hy => by have : y = r := by simpa using hy
                                              rw [this]; exact h5 x hx⟩
    · rw [h, List.pairwise_append]
      exact ⟨h3, by simp, fun x hx y hy => by have : y = r := by simpa using hy
                                              rw [this]; exact h6 x hx⟩
theorem tou_le {l : List Ru} {m : Int} {i j : Nat} (h : ToU l m j) (q : i ≤ j) : ToU l m i := by
  have e : l.take i = (l.take j).take i := by rw [List.take_take]; congr 1; omega
  refine ⟨fun r hr => h.each r ?_, ?_, ?_⟩
  · rw [e] at hr; exact List.mem_of_mem_take hr
  · rw [e]; exact h.ids.sublist (List.take_sublist _ _)
  · rw [e]; exact h.cores.sublist (List.take_sublist _ _)
structure MayS (s : Sk) (m : Int) : Prop where
  m1 : 1 ≤ m
  m2 : m ≤ 1024
  t0 : 0 ≤ s.tm
  t1 : s.tm ≤ 1099511627776
  runs : ToU s.runs m s.runs.length
open Classical in
noncomputable def mayS (s : Sk) (m : Int) : Bool := decide (MayS s m)
theorem mayS_yes {s : Sk} {m : Int} (h : MayS s m) : mayS s m = true := by unfold mayS; simp [h]
theorem mayS_no {s : Sk} {m : Int} (h : ¬ MayS s m) : mayS s m = false := by unfold mayS; simp [h]
theorem mayS_true {s : Sk} {m : Int} : mayS s m = true ↔ MayS s m := by unfold mayS; simp
theorem mayS_not {tm : Int} {l : List Ru} {m : Int} {i : Nat} {r : Ru} (hi : i < l.length) (h : l.take (i + 1) = l.take i ++ [r]) (hn : ¬ FineU (l.take i) m r) : mayS ⟨tm, l⟩ m = false :=
  mayS_no fun q => hn ((tou_step h).mp (tou_le q.runs (show i + 1 ≤ l.length by omega))).2
theorem not_fineU {pre : List Ru} {m : Int} {r : Ru} (h : r.core < 0 ∨ m ≤ r.core ∨ r.id < 0 ∨ 1023 < r.id ∨ r.idx < 1 ∨ 1099511627776 < r.idx) : ¬ FineU pre m r := fun q => by have := q.rng; omega
/-! ### runs in memory -/
def Ru.cs (r : Ru) : List Value := [.int .i64 r.id, .int .i64 r.core, .int .i64 r.idx]
structure RunAt (W : World) (b o : Nat) (r : Ru) : Prop where
  c0 : W.cell? ⟨b, o, none⟩ = some (.int .i64 r.id)
  c1 : W.cell? ⟨b, o + 1, none⟩ = some (.int .i64 r.core)
  c2 : W.cell? ⟨b, o + 2, none⟩ = some (.int .i64 r.idx)
theorem RunAt.lt {W : World} {b o : Nat} {r : Ru} (h : RunAt W b o r) : b < W.heap.size := World.block_lt_of_cell? _ _ h.c0
theorem RunAt.below {W W' : World} {b o : Nat} {r : Ru} (h : RunAt W b o r) (hb : Below W.heap.size W W') : RunAt W' b o r :=
  ⟨(hb.cell h.lt).trans h.c0, (hb.cell h.lt).trans h.c1, (hb.cell h.lt).trans h.c2⟩
theorem wideU (l : List Ru) : Wide 3 (l.map Ru.cs) := fun r hr => by
  rw [List.mem_map] at hr
  obtain ⟨e, _, rfl⟩ := hr
  rfl
theorem oneU (l : List Ru) : ∀ r ∈ l.map Ru.cs, ∀ u ∈ r, u.oneCell' = true := fun r hr u hu => by
  rw [List.mem_map] at hr
  obtain ⟨e, _, rfl⟩ := hr
  unfold Ru.cs at hu
  simp at hu
  rcases hu with rfl | rfl | rfl <;> rfl
/-- the slice that leads to 'a' reads as these runs -/
def RowU (W : World) (a : Option Addr) (len cap : Nat) (l : List Ru) : Prop := RowF W a len cap 3 (l.map Ru.cs)
theorem RowU.len {W : World} {a : Option Addr} {len cap : Nat} {l : List Ru} (h : RowU W a len cap l) : l.length = len := by have := h.1; rwa [List.length_map] at this
theorem RowU.cap_le {W : World} {a : Option Addr} {len cap : Nat} {l : List Ru} (h : RowU W a len cap l) : len ≤ cap ∧ cap ≤ 9223372036854775807 := RowF.cap_le h
theorem RowU.below {W W' : World} {a : Option Addr} {len cap : Nat} {l : List Ru} (h : RowU W a len cap l) (hb : Below W.heap.size W W') : RowU W' a len cap l := RowF.below (wideU l) h hb
theorem RowU.nil {W : World} : RowU W none 0 0 [] := RowF.nil
theorem RowU.take {W : World} {a : Option Addr} {len cap m : Nat} {l : List Ru} (h : RowU W a len cap l) (hm : m ≤ len) : RowU W a m cap (l.take m) := by
  unfold RowU; rw [List.map_take]; exact RowF.take h hm
theorem RowU.at {W : World} {a : Option Addr} {len cap : Nat} {l : List Ru} (h : RowU W a len cap l) {i : Nat} {r : Ru} (he : l[i]? = some r) : ∃ b off, a = some ⟨b, off, none⟩ ∧ RunAt W b (off + i * 3) r := by
  have hi : i < len := by rw [← h.len]; exact lt_of_get he
  obtain ⟨b, off, ha, hc⟩ := h.2.2.2.2 i hi
  have hg : (l.map Ru.cs).getD i [] = r.cs := by rw [List.getD_eq_getElem?_getD, List.getElem?_map, he]; rfl
  rw [hg] at hc
  exact ⟨b, off, ha, hc 0 (by omega), hc 1 (by omega), hc 2 (by omega)⟩
theorem RowU.same {W W' : World} {a : Option Addr} {len cap : Nat} {l : List Ru} (h : RowU W a len cap l) (hb : ∀ ad : Addr, a = some ad → W'.heap[ad.block]? = W.heap[ad.block]?) : RowU W' a len cap l := RowF.same h hb
theorem rowU_of_owns {W : World} {base : Nat} {e : TypeId} {v : Value} {n : Nat} {l : List Ru} (h : W.ownsRow base e 3 v n (l.map Ru.cs).flatten) (hn : l.length = n) :
    ∃ a cap, v = .slice a n cap ∧ RowU W a n cap l ∧ Fresh base a := rowF_of_owns (wideU l) h (by rw [List.length_map]; exact hn)

set_option maxRecDepth 20000 in
set_option maxHeartbeats 4000000 in
theorem r16check_any (tm : Int) (a : Option Addr) (len cap : Nat) (l : List Ru) (m : Int) (w : World) (h : RowU w a len cap l) :
    Calls Try.prog 22 #[.agg #[.int .i64 tm, .slice a len cap], .int .i64 m] w fun e w' => e = .returned (.bool (mayS ⟨tm, l⟩ m)) ∧ Below w.heap.size w w' := by
  have ⟨k1, k2⟩ := h.cap_le
  have LN := Lib.hid h.len
  obtain ⟨W1, hW1⟩ : ∃ W1, w.alloc (.cells #[.int .i64 tm, .slice a len cap] 47) = W1 := ⟨_, rfl⟩
  have B1 := Lib.hid (show Below w.heap.size w W1 by rw [← hW1]; exact wbox _ _)
  have X1 := Lib.hid (show Blk W1 47 w.heap.size #[.int .i64 tm, .slice a len cap] by rw [← hW1]; exact Blk.new _ _ _)
  have H := Lib.hid (h.below B1.out)
  clear h
  have x0 := X1.out.cell 0; have x1 := X1.out.cell 1
  simp at x0 x1
  have fin : ∀ W, Below W1.heap.size W1 W → Below w.heap.size w W := fun W hb => below_next B1.out hb
  have FB := Lib.hid fin
  clear fin
  by_cases m1 : 1 ≤ m
  · have t1 : decide (m < 1) = false := by simp; omega
    by_cases m2 : m ≤ 1024
    · have t2 : decide (1024 < m) = false := by simp; omega
      by_cases q1 : 0 ≤ tm
      · have t3 : decide (tm < 0) = false := by simp; omega
        by_cases q2 : tm ≤ 1099511627776
        · have t4 : decide (1099511627776 < tm) = false := by simp; omega
          have MB := Lib.hid (show ToU l m len → mayS ⟨tm, l⟩ m = true from fun q => mayS_yes ⟨m1, m2, q1, q2, by show ToU l m l.length; rw [LN.out]; exact q⟩)
          go_enter Try.func22, Try.ntmps22
          go_wp2
          clear hW1 x0 x1
          go_loopw [5] (fun u wr => ∃ i : Nat, u = .int .i64 i ∧ i ≤ len ∧ ToU l m i ∧ Below W1.heap.size W1 wr) (fun u _ => len - (intOf u).toNat)
          case atStart => exact ⟨0, rfl, by omega, tou_zero _ _, Below.refl _ _⟩
          case round =>
            obtain ⟨i, rfl, i1, ht, hb⟩ := hrel
            have T := Lib.hid ht
            have B := Lib.hid hb
            have X := Lib.hid (X1.out.below hb)
            clear ht hb
            have x0 := X.out.cell 0; have x1 := X.out.cell 1
            simp at x0 x1
            by_cases go : i < len
            · have b1 : decide ((i : Int) < (len : Int)) = true := by simp; omega
              have b1' : decide (i < len) = true := by simp; omega
              have iq : i < l.length := by rw [LN.out]; exact go
              obtain ⟨r, hr, hts⟩ := get_of iq
              have TS := Lib.hid hts
              have NO := Lib.hid (fun (q : ¬ FineU (l.take i) m r) => mayS_not (tm := tm) iq hts q)
              have ST := Lib.hid (fun (q : FineU (l.take i) m r) => (tou_step hts).mpr ⟨T.out, q⟩)
              obtain ⟨ba, oa, rfl, hat⟩ := H.out.at hr
              have XA := Lib.hid (hat.below B.out)
              have y0 := XA.out.c0; have y1 := XA.out.c1; have y2 := XA.out.c2
              have i3 : (i : Int) < (len : Int) := by omega
              have i0 : 0 ≤ (i : Int) := by omega
              obtain ⟨id, core, idx⟩ := r
              replace y0 : wr.cell? ⟨ba, oa + i * 3, none⟩ = some (.int .i64 id) := y0
              replace y1 : wr.cell? ⟨ba, oa + i * 3 + 1, none⟩ = some (.int .i64 core) := y1
              replace y2 : wr.cell? ⟨ba, oa + i * 3 + 2, none⟩ = some (.int .i64 idx) := y2
              obtain ⟨W2, hW2⟩ : ∃ W2, wr.alloc (.cells #[.int .i64 id, .int .i64 core, .int .i64 idx] 44) = W2 := ⟨_, rfl⟩
              have B2 := Lib.hid (show Below W1.heap.size W1 W2 by rw [← hW2]; exact below_next B.out (wbox _ _))
              have R2 := Lib.hid (show Blk W2 44 wr.heap.size #[.int .i64 id, .int .i64 core, .int .i64 idx] by rw [← hW2]; exact Blk.new _ _ _)
              have r0 := R2.out.cell 0; have r1 := R2.out.cell 1; have r2 := R2.out.cell 2
              simp at r0 r1 r2
              clear hr hts hat XA iq
              by_cases p0 : core < 0
              · have f0 : decide (core < 0) = true := decide_eq_true p0
                have V := Lib.hid (NO.out (not_fineU (.inl p0)))
                go_wp2
                go_ret
                exact ⟨ret_b V.out.symm, FB.out _ B2.out⟩
              · have f0 : decide (core < 0) = false := decide_eq_false p0
                by_cases p1 : m ≤ core
                · have f1 : decide (m ≤ core) = true := decide_eq_true p1
                  have V := Lib.hid (NO.out (not_fineU (.inr (.inl p1))))
                  go_wp2
                  go_ret
                  exact ⟨ret_b V.out.symm, FB.out _ B2.out⟩
                · have f1 : decide (m ≤ core) = false := decide_eq_false p1
                  by_cases p2 : id < 0
                  · have f2 : decide (id < 0) = true := decide_eq_true p2
                    have V := Lib.hid (NO.out (not_fineU (.inr (.inr (.inl p2)))))
                    go_wp2
                    go_ret
                    exact ⟨ret_b V.out.symm, FB.out _ B2.out⟩
                  · have f2 : decide (id < 0) = false := decide_eq_false p2
                    by_cases p3 : 1023 < id
                    · have f3 : decide (1023 < id) = true := decide_eq_true p3
                      have V := Lib.hid (NO.out (not_fineU (.inr (.inr (.inr (.inl p3))))))
                      go_wp2
                      go_ret
                      exact ⟨ret_b V.out.symm, FB.out _ B2.out⟩
                    · have f3 : decide (1023 < id) = false := decide_eq_false p3
                      by_cases p4 : idx < 1
                      · have f4 : decide (idx < 1) = true := decide_eq_true p4
                        have V := Lib.hid (NO.out (not_fineU (.inr (.inr (.inr (.inr (.inl p4)))))))
                        go_wp2
                        go_ret
                        exact ⟨ret_b V.out.symm, FB.out _ B2.out⟩
                      · have f4 : decide (idx < 1) = false := decide_eq_false p4
                        by_cases p5 : 1099511627776 < idx
                        · have f5 : decide (1099511627776 < idx) = true := decide_eq_true p5
                          have V := Lib.hid (NO.out (not_fineU (.inr (.inr (.inr (.inr (.inr (p5))))))))
                          go_wp2
                          go_ret
                          exact ⟨ret_b V.out.symm, FB.out _ B2.out⟩
                        · have f5 : decide (1099511627776 < idx) = false := decide_eq_false p5
                          have RG := Lib.hid (show 0 ≤ core ∧ core < m ∧ 0 ≤ id ∧ id ≤ 1023 ∧ 1 ≤ idx ∧ idx ≤ 1099511627776 by omega)
                          clear p0 p1 p2 p3 p4 p5
                          go_wp2
                          clear hW2 f0 f1 f2 f3 f4 f5 b1 b1' y0 y1 y2 r0 r1 r2 x0 x1 t1 t2 t3 t4
                          obtain ⟨gr, hgr⟩ : ∃ gr, wr.heap.size = gr := ⟨_, rfl⟩
                          rw [hgr] at R2 ⊢
                          clear hgr
                          go_loopw [7] (fun u wx => ∃ k : Nat, u = .int .i64 k ∧ k ≤ i ∧ (∀ x ∈ l.take k, x.id ≠ id ∧ x.core < core) ∧ Below W2.heap.size W2 wx) (fun u _ => i - (intOf u).toNat)
                          case atStart => exact ⟨0, rfl, by omega, by simp, Below.refl _ _⟩
                          case round =>
                            obtain ⟨k, rfl, k1', hk, hb⟩ := hrel
                            have K := Lib.hid hk
                            have BB := Lib.hid (below_next B2.out hb)
                            have R3 := Lib.hid (R2.out.below hb)
                            have X3 := Lib.hid (X1.out.below BB.out)
                            have BK := Lib.hid hb
                            clear hk hb
                            by_cases go2 : k < i
                            · have d1 : decide ((k : Int) < (i : Int)) = true := by simp; omega
                              have d1' : decide (k < i) = true := by simp; omega
                              have kq : k < l.length := by rw [LN.out]; omega
                              obtain ⟨y, hy, hys⟩ := get_of kq
                              have YS := Lib.hid hys
                              have YM := Lib.hid (show y ∈ l.take i from List.mem_take_iff_getElem.mpr ⟨k, by omega, by rw [List.getElem?_eq_getElem kq] at hy; simpa using hy⟩)
                              obtain ⟨b', o', e', haty⟩ := H.out.at hy
                              cases e'
                              have XY := Lib.hid (haty.below BB.out)
                              have y0 := XY.out.c0; have y1 := XY.out.c1
                              have r0 := R3.out.cell 0; have r1 := R3.out.cell 1
                              have x1 := X3.out.cell 1
                              simp at r0 r1 x1
                              have k3 : (k : Int) < (len : Int) := by omega
                              have k0 : 0 ≤ (k : Int) := by omega
                              obtain ⟨yid, ycore, yidx⟩ := y
                              replace y0 : wr.cell? ⟨ba, oa + k * 3, none⟩ = some (.int .i64 yid) := y0
                              replace y1 : wr.cell? ⟨ba, oa + k * 3 + 1, none⟩ = some (.int .i64 ycore) := y1
                              clear hy hys haty XY kq
                              by_cases e1 : yid = id
                              · have b2 : (yid == id) = true := by simp [e1]
                                have V := Lib.hid (NO.out fun q => q.id _ YM.out e1)
                                clear e1
                                go_upto_region 12 with fail
                                go_quiet (fail)
                                go_wp2
                                go_ret
                                exact ⟨ret_b V.out.symm, FB.out _ (bdN BB.out _)⟩
                              · have b2 : (yid == id) = false := by simp [e1]
                                by_cases e2 : core ≤ ycore
                                · have b3 : decide (core ≤ ycore) = true := decide_eq_true e2
                                  have V := Lib.hid (NO.out fun q => by have h1 := q.core _ YM.out; have h2 : ycore < core := h1; omega)
                                  clear e1 e2
                                  go_upto_region 12 with fail
                                  go_quiet (fail)
                                  go_wp2
                                  go_ret
                                  exact ⟨ret_b V.out.symm, FB.out _ (bdN BB.out _)⟩
                                · have b3 : decide (core ≤ ycore) = false := decide_eq_false e2
                                  have NX := Lib.hid (show ∀ x ∈ l.take (k + 1), x.id ≠ id ∧ x.core < core from fun x hx => by
                                    rw [YS.out] at hx
                                    rcases List.mem_append.mp hx with q | q
                                    · exact K.out x q
                                    · have : x = ⟨yid, ycore, yidx⟩ := by simpa using q
                                      rw [this]; exact ⟨e1, by show ycore < core; omega⟩)
                                  clear e1 e2
                                  go_upto_region 12 with fail
                                  go_quiet (fail)
                                  go_wp2
                                  go_roundw
                                  case rel => exact ⟨k + 1, by go_num, by omega, NX.out, bdN BK.out _⟩
                                  case measure => simp [intOf]; omega
                            · have d1 : decide ((k : Int) < (i : Int)) = false := by simp; omega
                              have d1' : decide (k < i) = false := by simp; omega
                              have TN := Lib.hid (ST.out ⟨RG.out, fun x hx => (K.out x (by rw [show k = i by omega]; exact hx)).1, fun x hx => (K.out x (by rw [show k = i by omega]; exact hx)).2⟩)
                              go_wp2
                              go_roundw
                              case rel => exact ⟨i + 1, by go_num, by omega, TN.out, BB.out⟩
                              case measure => simp [intOf]; omega
            · have b1 : decide ((i : Int) < (len : Int)) = false := by simp; omega
              have b1' : decide (i < len) = false := by simp; omega
              have V := Lib.hid (MB.out (by rw [show len = i by omega]; exact T.out))
              go_wp2
              go_ret
              exact ⟨ret_b V.out.symm, FB.out _ B.out⟩
        · have t4 : decide (1099511627776 < tm) = true := by simp; omega
          have V := Lib.hid (show mayS ⟨tm, l⟩ m = false from mayS_no fun q => q2 q.t1)
          go_enter Try.func22, Try.ntmps22
          go_wp2
          go_ret
          exact ⟨ret_b V.out.symm, B1.out⟩
      · have t3 : decide (tm < 0) = true := by simp; omega
        have V := Lib.hid (show mayS ⟨tm, l⟩ m = false from mayS_no fun q => q1 q.t0)
        go_enter Try.func22, Try.ntmps22
        go_wp2
        go_ret
        exact ⟨ret_b V.out.symm, B1.out⟩
    · have t2 : decide (1024 < m) = true := by simp; omega
      have V := Lib.hid (show mayS ⟨tm, l⟩ m = false from mayS_no fun q => m2 q.m2)
      go_enter Try.func22, Try.ntmps22
      go_wp2
      go_ret
      exact ⟨ret_b V.out.symm, B1.out⟩
  · have t1 : decide (m < 1) = true := by simp; omega
    have V := Lib.hid (show mayS ⟨tm, l⟩ m = false from mayS_no fun q => m1 q.m1)
    go_enter Try.func22, Try.ntmps22
    go_wp2
    go_ret
    exact ⟨ret_b V.out.symm, B1.out⟩
end Go.Proofs.Ytndhpihgeacdfaa

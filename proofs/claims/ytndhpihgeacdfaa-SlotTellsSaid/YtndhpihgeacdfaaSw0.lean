/-
  Package slot's Check: contract.
-/
import Derived.Test.YtndhpihgeacdfaaSs0
namespace Go.Proofs.Ytndhpihgeacdfaa
open Go.RowKit

/-! ### an array of truths: is an ID one of these? -/
def tkc (tk : List Int) : Array Value := Array.ofFn (n := 1024) fun i => .bool (decide ((i.val : Int) ∈ tk))
theorem tkc_size (tk : List Int) : (tkc tk).size = 1024 := by simp [tkc]
theorem tkc_at (tk : List Int) {j : Nat} (h : j < 1024) : (tkc tk)[j]? = some (.bool (decide ((j : Int) ∈ tk))) := by
  unfold tkc
  rw [Array.getElem?_eq_getElem (by simpa using h)]
  simp
theorem tkc_ext {A : Array Value} {tk : List Int} (hs : A.size = 1024) (h : ∀ j, j < 1024 → A[j]? = some (.bool (decide ((j : Int) ∈ tk)))) : A = tkc tk := by
  apply Array.ext_getElem?
  intro j
  by_cases q : j < 1024
  · rw [h j q, tkc_at tk q]
  · rw [Array.getElem?_eq_none (by omega), Array.getElem?_eq_none (by rw [tkc_size]; omega)]
theorem tkc_set (tk : List Int) {j : Nat} (h : j < 1024) : (tkc tk).setIfInBounds j (.bool true) = tkc (tk ++ [(j : Int)]) := by
  refine tkc_ext (by simp [tkc_size]) fun k hk => ?_
  by_cases e : j = k
  · subst e
    rw [Array.getElem?_setIfInBounds_self_of_lt (by rw [tkc_size]; exact h)]
    simp
  · rw [Array.getElem?_setIfInBounds_ne e, tkc_at tk hk]
    have : ¬ (k : Int) = j := by omega
    simp [this]
theorem tkc_nil : Array.replicate 1024 (Value.bool false) = tkc [] :=
  tkc_ext (by simp) fun j hj => by
    rw [Array.getElem?_replicate, if_pos hj]
    simp
theorem zeroA (w : World) : (zeroValue 63).run Try.prog w = .ok (.agg (Array.replicate 1024 (.bool false))) w := by kernel_rfl
def idsU (l : List Ru) : List Int := l.map Ru.id
theorem ids_snoc (l : List Ru) (r : Ru) : idsU (l ++ [r]) = idsU l ++ [r.id] := by simp [idsU]
/-- runs that rise by cores below m are at most m -/
theorem cores_few : ∀ (x : List Ru) (c m : Int), (∀ r ∈ x, c ≤ r.core ∧ r.core < m) → x.Pairwise (fun a b => a.core < b.core) → x = [] ∨ (x.length : Int) ≤ m - c
  | [], _, _, _, _ => .inl rfl
  | r :: x, c, m, h, hp => by
    have g := h r List.mem_cons_self
    rw [List.pairwise_cons] at hp
    have ih := cores_few x (r.core + 1) m (fun y hy => by have := hp.1 y hy; have := (h y (List.mem_cons_of_mem _ hy)).2; omega) hp.2
    right
    rw [List.length_cons]
    rcases ih with q | q
    · rw [q]; simp; omega
    · omega
theorem tou_few {l : List Ru} {m : Int} (m1 : 1 ≤ m) (h : ToU l m l.length) : (l.length : Int) ≤ m := by
  have e := h.each
  have c := h.cores
  rw [List.take_length] at e c
  rcases cores_few l 0 m (fun r hr => by have := e r hr; omega) c with q | q
  · rw [q]; simp; omega
  · omega
/-- where the cores of these end -/
structure EndC (pre : List Ru) (f : Int) : Prop where
  lo : 0 ≤ f
  hi : f ≤ 1024
  le : ∀ x ∈ pre, x.core < f
  is : f = 0 ∨ ∃ x ∈ pre, f = x.core + 1
theorem EndC.zero : EndC [] 0 := ⟨Int.le_refl _, by omega, by simp, .inl rfl⟩
theorem EndC.not {pre : List Ru} {f m : Int} {r : Ru} (h : EndC pre f) (q : r.core < f) : ¬ FineU pre m r := fun g => by
  rcases h.is with e | ⟨x, hx, e⟩
  · have := g.rng; omega
  · have := g.core x hx; omega
theorem EndC.next {pre : List Ru} {f : Int} {r : Ru} (h : EndC pre f) (q : f ≤ r.core) (u : r.core < 1024) : EndC (pre ++ [r]) (r.core + 1) :=
  ⟨by have := h.lo; omega, by omega, fun x hx => by
    rcases List.mem_append.mp hx with g | g
    · have := h.le x g; omega
    · have : x = r := by simpa using g
      rw [this]; omega, .inr ⟨r, by simp, rfl⟩⟩

set_option maxRecDepth 20000 in
set_option maxHeartbeats 4000000 in
theorem pcheck_any (tm : Int) (a : Option Addr) (len cap : Nat) (l : List Ru) (m : Int) (w : World) (h : RowU w a len cap l) :
    Calls Try.prog 21 #[.agg #[.int .i64 tm, .slice a len cap], .int .i64 m] w fun e w' => e = .returned (.bool (mayS ⟨tm, l⟩ m)) ∧ Below w.heap.size w w' := by
  have ⟨k1, k2⟩ := h.cap_le
  have LN := Lib.hid h.len
  obtain ⟨W1, hW1⟩ : ∃ W1, w.alloc (.cells #[.int .i64 tm, .slice a len cap] 47) = W1 := ⟨_, rfl⟩
  have B1 := Lib.hid (show Below w.heap.size w W1 by rw [← hW1]; exact wbox _ _)
  have X1 := Lib.hid (show Blk W1 47 w.heap.size #[.int .i64 tm, .slice a len cap] by rw [← hW1]; exact Blk.new _ _ _)
  have H := Lib.hid (h.below B1.out)
  clear h
  have x0 := X1.out.cell 0; have x1 := X1.out.cell 1
  simp at x0 x1
  have FB := Lib.hid (show ∀ W, Below W1.heap.size W1 W → Below w.heap.size w W from fun W hb => below_next B1.out hb)
  by_cases m1 : 1 ≤ m
  · have t1 : decide (m < 1) = false := by simp; omega
    by_cases m2 : m ≤ 1024
    · have t2 : decide (1024 < m) = false := by simp; omega
      by_cases q1 : 0 ≤ tm
      · have t3 : decide (tm < 0) = false := by simp; omega
        by_cases q2 : tm ≤ 1099511627776
        · have t4 : decide (1099511627776 < tm) = false := by simp; omega
          by_cases q3 : (len : Int) ≤ m
          · have t5 : decide (m < (len : Int)) = false := by simp; omega
            have MB := Lib.hid (show ToU l m len → mayS ⟨tm, l⟩ m = true from fun q => mayS_yes ⟨m1, m2, q1, q2, by show ToU l m l.length; rw [LN.out]; exact q⟩)
            have hz := zeroA
            obtain ⟨W2, hW2⟩ : ∃ W2, W1.alloc (.cells (Array.replicate 1024 (.bool false)) 63) = W2 := ⟨_, rfl⟩
            have B2 := Lib.hid (show Below W1.heap.size W1 W2 by rw [← hW2]; exact wbox _ _)
            have X2 := Lib.hid (X1.out.below B2.out)
            have A2 := Lib.hid (show Blk W2 63 W1.heap.size (tkc (idsU [])) by rw [← hW2, tkc_nil]; exact Blk.new _ _ _)
            have y0 := X2.out.cell 0; have y1 := X2.out.cell 1
            simp at y0 y1
            go_enter Try.func21, Try.ntmps21
            go_wp2
            clear hW1 x0 x1 hz hW2 y0 y1
            have gl := X1.out.lt
            obtain ⟨g, hg⟩ : ∃ g, W1.heap.size = g := ⟨_, rfl⟩
            rw [hg] at A2 FB B2 gl ⊢
            have G0 := Lib.hid hg
            clear hg
            go_loopw [6, 35] (fun f u wr => ∃ (i : Nat) (c : Int), u = .int .i64 i ∧ f = .int .i64 c ∧ i ≤ len ∧ ToU l m i ∧ EndC (l.take i) c ∧ Blk wr 63 g (tkc (idsU (l.take i))) ∧ Below g W1 wr) (fun _ u _ => len - (intOf u).toNat)
            case atStart => exact ⟨0, 0, rfl, rfl, by omega, tou_zero _ _, EndC.zero, A2.out, B2.out⟩
            case round =>
              obtain ⟨i, c, rfl, rfl, i1, ht, he, ha, hb⟩ := hrel
              have T := Lib.hid ht
              have E := Lib.hid he
              have A := Lib.hid ha
              have B := Lib.hid hb
              have c0 : 0 ≤ c := he.lo
              have c1 : c ≤ 1024 := he.hi
              clear ht he ha hb
              by_cases go : i < len
              · have b1 : decide ((i : Int) < (len : Int)) = true := by simp; omega
                have b1' : decide (i < len) = true := by simp; omega
                have iq : i < l.length := by rw [LN.out]; exact go
                obtain ⟨r, hr, hts⟩ := get_of iq
                have TS := Lib.hid hts
                have NO := Lib.hid (fun (q : ¬ FineU (l.take i) m r) => mayS_not (tm := tm) iq hts q)
                have ST := Lib.hid (fun (q : FineU (l.take i) m r) => (tou_step hts).mpr ⟨T.out, q⟩)
                have IS := Lib.hid (show idsU (l.take (i + 1)) = idsU (l.take i) ++ [r.id] by rw [hts, ids_snoc])
                have EN := Lib.hid (fun (q : c ≤ r.core) (u : r.core < 1024) => (show EndC (l.take (i + 1)) (r.core + 1) by rw [hts]; exact E.out.next q u))
                obtain ⟨ba, oa, rfl, hat⟩ := H.out.at hr
                have XA := Lib.hid (hat.below (show Below W1.heap.size W1 wr by rw [G0.out]; exact B.out))
                have y0 := XA.out.c0; have y1 := XA.out.c1; have y2 := XA.out.c2
                have i3 : (i : Int) < (len : Int) := by omega
                have i0 : 0 ≤ (i : Int) := by omega
                obtain ⟨id, core, idx⟩ := r
                replace y0 : wr.cell? ⟨ba, oa + i * 3, none⟩ = some (.int .i64 id) := y0
                replace y1 : wr.cell? ⟨ba, oa + i * 3 + 1, none⟩ = some (.int .i64 core) := y1
                replace y2 : wr.cell? ⟨ba, oa + i * 3 + 2, none⟩ = some (.int .i64 idx) := y2
                obtain ⟨W3, hW3⟩ : ∃ W3, wr.alloc (.cells #[.int .i64 id, .int .i64 core, .int .i64 idx] 44) = W3 := ⟨_, rfl⟩
                have B3 := Lib.hid (show Below g W1 W3 by rw [← hW3]; exact B.out.trans ((wbox _ _).mono (Nat.le_of_lt A.out.lt)))
                have R3 := Lib.hid (show Blk W3 44 wr.heap.size #[.int .i64 id, .int .i64 core, .int .i64 idx] by rw [← hW3]; exact Blk.new _ _ _)
                have A3 := Lib.hid (show Blk W3 63 g (tkc (idsU (l.take i))) by rw [← hW3]; exact A.out.alloc _)
                have r0 := R3.out.cell 0; have r1 := R3.out.cell 1; have r2 := R3.out.cell 2
                simp at r0 r1 r2
                clear hr hts hat XA iq
                by_cases p0 : core < c
                · have f0 : decide (core < c) = true := decide_eq_true p0
                  have V := Lib.hid (NO.out (E.out.not p0))
                  go_wp2
                  go_ret
                  exact ⟨ret_b V.out.symm, FB.out _ B3.out⟩
                · have f0 : decide (core < c) = false := decide_eq_false p0
                  by_cases p1 : m ≤ core
                  · have f1 : decide (m ≤ core) = true := decide_eq_true p1
                    have V := Lib.hid (NO.out (not_fineU (.inr (.inl p1))))
                    go_wp2
                    go_ret
                    exact ⟨ret_b V.out.symm, FB.out _ B3.out⟩
                  · have f1 : decide (m ≤ core) = false := decide_eq_false p1
                    by_cases p2 : id < 0
                    · have f2 : decide (id < 0) = true := decide_eq_true p2
                      have V := Lib.hid (NO.out (not_fineU (.inr (.inr (.inl p2)))))
                      go_wp2
                      go_ret
                      exact ⟨ret_b V.out.symm, FB.out _ B3.out⟩
                    · have f2 : decide (id < 0) = false := decide_eq_false p2
                      by_cases p3 : 1023 < id
                      · have f3 : decide (1024 ≤ id) = true := decide_eq_true (by omega)
                        have V := Lib.hid (NO.out (not_fineU (.inr (.inr (.inr (.inl p3))))))
                        go_wp2
                        go_ret
                        exact ⟨ret_b V.out.symm, FB.out _ B3.out⟩
                      · have f3 : decide (1024 ≤ id) = false := decide_eq_false (by omega)
                        obtain ⟨n, rfl⟩ := Int.eq_ofNat_of_zero_le (show 0 ≤ id by omega)
                        have hn : n < 1024 := by omega
                        have z := A3.out.cell n
                        rw [tkc_at _ hn] at z
                        have zf := A3.out.free n
                        by_cases p6 : (n : Int) ∈ idsU (l.take i)
                        · have V := Lib.hid (NO.out fun q => by
                            unfold idsU at p6
                            rw [List.mem_map] at p6
                            obtain ⟨x, hx, e⟩ := p6
                            exact q.id x hx e)
                          rw [decide_eq_true p6] at z
                          clear p6
                          go_wp2
                          go_ret
                          exact ⟨ret_b V.out.symm, FB.out _ B3.out⟩
                        · rw [decide_eq_false p6] at z
                          have NM := Lib.hid (show ∀ x ∈ l.take i, x.id ≠ (n : Int) from fun x hx e => p6 (by unfold idsU; rw [List.mem_map]; exact ⟨x, hx, e⟩))
                          clear p6
                          by_cases p4 : idx < 1
                          · have f4 : decide (idx < 1) = true := decide_eq_true p4
                            have V := Lib.hid (NO.out (not_fineU (.inr (.inr (.inr (.inr (.inl p4)))))))
                            go_wp2
                            go_ret
                            exact ⟨ret_b V.out.symm, FB.out _ B3.out⟩
                          · have f4 : decide (idx < 1) = false := decide_eq_false p4
                            by_cases p5 : 1099511627776 < idx
                            · have f5 : decide (1099511627776 < idx) = true := decide_eq_true p5
                              have V := Lib.hid (NO.out (not_fineU (.inr (.inr (.inr (.inr (.inr (p5))))))))
                              go_wp2
                              go_ret
                              exact ⟨ret_b V.out.symm, FB.out _ B3.out⟩
                            · have f5 : decide (1099511627776 < idx) = false := decide_eq_false p5
                              have RG : 0 ≤ core ∧ core < m ∧ 0 ≤ (n : Int) ∧ (n : Int) ≤ 1023 ∧ 1 ≤ idx ∧ idx ≤ 1099511627776 := by omega
                              have TN := Lib.hid (ST.out ⟨RG, NM.out, fun x hx => by have h1 := E.out.le x hx; show x.core < core; omega⟩)
                              have EX := Lib.hid (EN.out (show c ≤ core by omega) (show core < 1024 by omega))
                              obtain ⟨W4, hW4⟩ : ∃ W4, W3.setCell ⟨g, n, none⟩ (.bool true) = W4 := ⟨_, rfl⟩
                              have R4 := Lib.hid (show Blk W4 44 wr.heap.size #[.int .i64 n, .int .i64 core, .int .i64 idx] by rw [← hW4]; exact R3.out.keeps ((Keeps.refl (fun k => k = g) W3).set (.inl rfl) n (.bool true)) (by have := A.out.lt; omega))
                              have A4 := Lib.hid (show Blk W4 63 g (tkc (idsU (l.take (i + 1)))) by
                                have hs := heap_setCell_same W3 g n _ 63 (.bool true) A3.out
                                rw [tkc_set _ hn] at hs
                                rw [← hW4, IS.out]
                                exact hs)
                              have B4 := Lib.hid (show Below g W1 W4 by rw [← hW4]; exact B3.out.setCell (Nat.le_refl _) _)
                              have r1' := R4.out.cell 1
                              simp at r1'
                              have wv : IntKind.i64.wrap (core + 1) = core + 1 := IntWalk.i64_in _ (by omega)
                              clear p0 p1 p2 p3 p4 p5 RG
                              go_wp2
                              go_roundw
                              case rel => exact ⟨i + 1, core + 1, by go_num, rfl, by omega, TN.out, EX.out, A4.out, B4.out⟩
                              case measure => simp [intOf]; omega
              · have b1 : decide ((i : Int) < (len : Int)) = false := by simp; omega
                have b1' : decide (i < len) = false := by simp; omega
                have V := Lib.hid (MB.out (by rw [show len = i by omega]; exact T.out))
                go_wp2
                go_ret
                exact ⟨ret_b V.out.symm, FB.out _ B.out⟩
          · have t5 : decide (m < (len : Int)) = true := by simp; omega
            have V := Lib.hid (show mayS ⟨tm, l⟩ m = false from mayS_no fun q => by
              have h1 := tou_few q.m1 q.runs
              have h2 : (l.length : Int) ≤ m := h1
              rw [LN.out] at h2
              omega)
            go_enter Try.func21, Try.ntmps21
            go_wp2
            go_ret
            exact ⟨ret_b V.out.symm, B1.out⟩
        · have t4 : decide (1099511627776 < tm) = true := by simp; omega
          have V := Lib.hid (show mayS ⟨tm, l⟩ m = false from mayS_no fun q => q2 q.t1)
          go_enter Try.func21, Try.ntmps21
          go_wp2
          go_ret
          exact ⟨ret_b V.out.symm, B1.out⟩
      · have t3 : decide (tm < 0) = true := by simp; omega
        have V := Lib.hid (show mayS ⟨tm, l⟩ m = false from mayS_no fun q => q1 q.t0)
        go_enter Try.func21, Try.ntmps21
        go_wp2
        go_ret
        exact ⟨ret_b V.out.symm, B1.out⟩
    · have t2 : decide (1024 < m) = true := by simp; omega
      have V := Lib.hid (show mayS ⟨tm, l⟩ m = false from mayS_no fun q => m2 q.m2)
      go_enter Try.func21, Try.ntmps21
      go_wp2
      go_ret
      exact ⟨ret_b V.out.symm, B1.out⟩
  · have t1 : decide (m < 1) = true := by simp; omega
    have V := Lib.hid (show mayS ⟨tm, l⟩ m = false from mayS_no fun q => m1 q.m1)
    go_enter Try.func21, Try.ntmps21
    go_wp2
    go_ret
    exact ⟨ret_b V.out.symm, B1.out⟩
end Go.Proofs.Ytndhpihgeacdfaa

/-
  Package super: what a supertask is in memory; what only reads it; a component that serves: contracts.
  Package super: by which order jobs go; what the library compares: contracts.
  Jobs in their order: insertion; what waits of each part: plain data.
-/
import Derived.Test.YtnlgophgglgneaaSvA
import Derived.Test.YtnlgophgglgneaaSep
import Derived.Test.YtnlgophgglgneaaProg
import Derived.IntWalk
import Derived.BigRegion
import Derived.Test.YtnlgophgglgneaaSrt
import Derived.Deep.RegionHeld3
namespace Go.Proofs.Ytnlgophgglgneaa
open Go.RowKit

/-- a component's cells -/
def compC (s : SS) (i : Nat) : List Value := [.int .i64 (s.E i), .int .i64 (s.P i), .int .i64 (ixS s i), .int .i64 (lfS s i)]
def compsC (s : SS) : List (List Value) := (List.range s.n).map (compC s)
theorem comps_len (s : SS) : (compsC s).length = s.n := by unfold compsC; simp
theorem comps_wide (s : SS) : Wide 4 (compsC s) := fun r hr => by
  obtain ⟨i, _, rfl⟩ := List.mem_map.mp hr
  rfl
theorem comps_at (s : SS) {i : Nat} (hi : i < s.n) : (compsC s)[i]? = some (compC s i) := by unfold compsC; rw [List.getElem?_map, List.getElem?_range hi]; rfl
def boxS (s : SS) (gc cap : Nat) : Array Value := #[.slice (some ⟨gc, 0, none⟩) s.n cap, .int .i64 s.A, .int .i64 s.last, .int .i64 s.served, .int .i64 s.idle]
/-- block g is a supertask, its components lie in block gc -/
structure SAt (w : World) (g gc cap : Nat) (s : SS) : Prop where
  box : Blk w 71 g (boxS s gc cap)
  row : w.ownsRow 0 73 4 (.slice (some ⟨gc, 0, none⟩) s.n cap) s.n (compsC s).flatten
  ne : g ≠ gc
  good : GoodU s
def HpS (w : World) (g : Nat) (F : Nat → Prop) (s : SS) : Prop := ∃ gc cap, SAt w g gc cap s ∧ ∀ k, F k ↔ k = g ∨ k = gc
theorem SAt.lt {w : World} {g gc cap : Nat} {s : SS} (h : SAt w g gc cap s) : g < w.heap.size ∧ gc < w.heap.size := ⟨h.box.lt, (h.row.lt gc rfl).2⟩
theorem SAt.keeps {w w' : World} {g gc cap : Nat} {s : SS} {F : Nat → Prop} (h : SAt w g gc cap s) (k : Keeps F w w') (h1 : ¬ F g) (h2 : ¬ F gc) : SAt w' g gc cap s :=
  ⟨h.box.keeps k h1, owns_keeps h.row k (fun x e => by simp [Value.ownBlock] at e; subst e; exact h2), h.ne, h.good⟩
theorem SAt.below {w w' : World} {g gc cap : Nat} {s : SS} (h : SAt w g gc cap s) (hb : Below w.heap.size w w') : SAt w' g gc cap s := h.keeps (F := fun _ => False) (Keeps.of hb) id id
theorem HpS.lies {w : World} {g : Nat} {F : Nat → Prop} {s : SS} (h : HpS w g F s) : Lies F w := by
  obtain ⟨gc, cap, h, hF⟩ := h
  intro k hk
  rcases (hF k).mp hk with rfl | rfl
  · exact h.lt.1
  · exact h.lt.2
theorem HpS.keeps {w w' : World} {g : Nat} {F G : Nat → Prop} {s : SS} (h : HpS w g F s) (k : Keeps G w w') (ap : Apart F G) : HpS w' g F s := by
  obtain ⟨gc, cap, h, hF⟩ := h
  exact ⟨gc, cap, h.keeps k (ap g ((hF g).mpr (.inl rfl))) (ap gc ((hF gc).mpr (.inr rfl))), hF⟩
theorem HpS.below {w w' : World} {g : Nat} {F : Nat → Prop} {s : SS} (h : HpS w g F s) (hb : Below w.heap.size w w') : HpS w' g F s := h.keeps (G := fun _ => False) (Keeps.of hb) (fun _ _ q => q)
theorem HpS.good {w : World} {g : Nat} {F : Nat → Prop} {s : SS} (h : HpS w g F s) : GoodU s := by obtain ⟨_, _, h, _⟩ := h; exact h.good
/-- a component's four cells -/
structure CAt (w : World) (gc o : Nat) (s : SS) (i : Nat) : Prop where
  c0 : w.cell? ⟨gc, o, none⟩ = some (.int .i64 (s.E i))
  c1 : w.cell? ⟨gc, o + 1, none⟩ = some (.int .i64 (s.P i))
  c2 : w.cell? ⟨gc, o + 2, none⟩ = some (.int .i64 (ixS s i))
  c3 : w.cell? ⟨gc, o + 3, none⟩ = some (.int .i64 (lfS s i))
theorem owns_comp {w : World} {gc cap : Nat} {s : SS} {i : Nat} (h : w.ownsRow 0 73 4 (.slice (some ⟨gc, 0, none⟩) s.n cap) s.n (compsC s).flatten) (hi : i < s.n) : CAt w gc (i * 4) s i := by
  have hg : (compsC s).getD i [] = compC s i := by rw [List.getD_eq_getElem?_getD, comps_at s hi]; rfl
  have key : ∀ j, j < 4 → w.cell? ⟨gc, i * 4 + j, none⟩ = (compC s i)[j]? := fun j hj => by
    rw [h.cellAt (i * 4 + j) (by omega), flat_at _ (comps_wide s) i (by rw [comps_len]; exact hi) j hj, hg]
  exact ⟨key 0 (by omega), key 1 (by omega), key 2 (by omega), key 3 (by omega)⟩
theorem CAt.below {w w' : World} {gc o : Nat} {s : SS} {i : Nat} (h : CAt w gc o s i) (hb : Below w.heap.size w w') : CAt w' gc o s i := by
  have hl := World.block_lt_of_cell? _ _ h.c0
  exact ⟨(hb.cell (p := ⟨gc, o, none⟩) hl).trans h.c0, (hb.cell (p := ⟨gc, o + 1, none⟩) hl).trans h.c1, (hb.cell (p := ⟨gc, o + 2, none⟩) hl).trans h.c2, (hb.cell (p := ⟨gc, o + 3, none⟩) hl).trans h.c3⟩

section
variable {w : World} {g gc cap : Nat} {s : SS}
theorem sserved_any (h : SAt w g gc cap s) : Calls Try.prog 23 #[.pointer (some ⟨g, 0, none⟩)] w fun e w' => e = .returned (.int .i64 s.served) ∧ w = w' := by
  have c3 := h.box.cell 3
  simp [boxS] at c3
  clear h
  go_enter Try.func23, Try.ntmps23
  go_wp2
  go_ret
  exact ⟨rfl, rfl⟩
theorem sidle_any (h : SAt w g gc cap s) : Calls Try.prog 24 #[.pointer (some ⟨g, 0, none⟩)] w fun e w' => e = .returned (.int .i64 s.idle) ∧ w = w' := by
  have c3 := h.box.cell 4
  simp [boxS] at c3
  clear h
  go_enter Try.func24, Try.ntmps24
  go_wp2
  go_ret
  exact ⟨rfl, rfl⟩
theorem smay_any (h : SAt w g gc cap s) (t : Int) (b : Bool) (hb : mayS s t = b) : Calls Try.prog 38 #[.pointer (some ⟨g, 0, none⟩), .int .i64 t] w fun e w' => e = .returned (.bool b) ∧ w = w' := by
  subst hb
  have c2 := h.box.cell 2
  simp [boxS] at c2
  obtain ⟨l, hl⟩ : ∃ l, s.last = l := ⟨_, rfl⟩
  have M := Lib.hid (show mayS s t = (decide (l ≤ t) && decide (t ≤ 1099511627776)) by unfold mayS; rw [hl])
  rw [hl] at c2
  clear h hl
  by_cases h1 : l ≤ t
  · have b1 : decide (l ≤ t) = true := by simp; omega
    by_cases h2 : t ≤ 1099511627776
    · have b2 : decide (t ≤ 1099511627776) = true := by simp; omega
      go_enter Try.func38, Try.ntmps38
      go_wp2
      go_ret
      exact ⟨by rw [M.out, b1, b2]; rfl, rfl⟩
    · have b2 : decide (t ≤ 1099511627776) = false := by simp; omega
      go_enter Try.func38, Try.ntmps38
      go_wp2
      go_ret
      exact ⟨by rw [M.out, b1, b2]; rfl, rfl⟩
  · have b1 : decide (l ≤ t) = false := by simp; omega
    go_enter Try.func38, Try.ntmps38
    go_wp2
    go_ret
    exact ⟨by rw [M.out, b1]; rfl, rfl⟩
/-! ### a component serves -/
theorem flat_setj4 {c : Nat} {j : Nat} (hj : j < c) (u : Value) (rs : List (List Value)) (hw : Wide c rs) (i : Nat) (r : List Value) (hr : rs[i]? = some r) : rs.flatten.set (i * c + j) u = (rs.set i (r.set j u)).flatten := by
  induction rs generalizing i with
  | nil => simp at hr
  | cons x rs ih =>
    have hs : x.length = c := hw x (List.mem_cons_self ..)
    cases i with
    | zero =>
      simp at hr
      subst hr
      rw [Nat.zero_mul, Nat.zero_add, List.flatten_cons, List.set_append_left _ _ (by omega)]
      rfl
    | succ i =>
      rw [List.flatten_cons, List.set_append_right _ _ (by rw [hs, Nat.succ_mul]; omega), show (i + 1) * c + j - x.length = i * c + j by rw [hs, Nat.succ_mul]; omega]
      rw [ih (fun r' h => hw r' (List.mem_cons_of_mem _ h)) i (by simpa using hr)]
      rfl
/-- behind a quantum that part i served -/
theorem comps_next {s s' : SS} {i : Nat} (ep : s'.ps = s.ps) (ed : ∀ j, j ≠ i → s'.D j = s.D j) : compsC s' = (compsC s).set i (compC s' i) := by
  have en : s'.n = s.n := by unfold SS.n; rw [ep]
  apply List.ext_getElem?
  intro j
  by_cases hj : j < s.n
  · rw [comps_at s' (by rw [en]; exact hj)]
    by_cases e : j = i
    · subst e
      rw [List.getElem?_set_self (by rw [comps_len]; exact hj)]
    · rw [List.getElem?_set_ne (Ne.symm e), comps_at s hj]
      unfold compC ixS lfS ixS SS.E SS.P
      rw [ep, ed j e]
  · rw [List.getElem?_eq_none (by rw [comps_len, en]; omega), List.getElem?_eq_none (by rw [List.length_set, comps_len]; omega)]
theorem len3 (a b c d x : Value) : [a, b, c, d].set 3 x = [a, b, c, x] := rfl
theorem len2 (a b c d x : Value) : [a, b, c, d].set 2 x = [a, b, x, d] := rfl
theorem wide_set {c : Nat} {rs : List (List Value)} (h : Wide c rs) (i : Nat) {r : List Value} (hr : r.length = c) : Wide c (rs.set i r) := fun x hx => by
  rcases List.mem_or_eq_of_mem_set hx with q | q
  · exact h x q
  · rw [q]; exact hr
set_option maxHeartbeats 1000000 in
theorem sserve_any (s' : SS) (i : Nat) (h : w.ownsRow 0 73 4 (.slice (some ⟨gc, 0, none⟩) s.n cap) s.n (compsC s).flatten) (hg : GoodU s) (hi : i < s.n) (hs : s.served ≤ 1000000) (ep : s'.ps = s.ps) (ed : ∀ j, j ≠ i → s'.D j = s.D j) (ei : s'.D i = s.D i + 1) :
    Calls Try.prog 40 #[.pointer (some ⟨gc, i * 4, none⟩)] w fun e w' => e = .returned (.tuple #[]) ∧ w'.ownsRow 0 73 4 (.slice (some ⟨gc, 0, none⟩) s.n cap) s.n (compsC s').flatten ∧ Keeps (fun k => k = gc) w w' := by
  have H := Lib.hid h
  have C := Lib.hid (owns_comp h hi)
  have NX := Lib.hid (ix_next hg hi ep ei)
  have ⟨b1, b2, b3, b4⟩ := ix_bd hg hi
  have b5 := hg.d1 i
  have b6 := (hg.mb hi).2
  have CN := Lib.hid (comps_next (i := i) ep ed)
  have AT := Lib.hid (comps_at s hi)
  have EE := Lib.hid (show s'.E i = s.E i ∧ s'.P i = s.P i by unfold SS.E SS.P; rw [ep]; exact ⟨rfl, rfl⟩)
  have fz : ∀ o, w.frozen? ⟨gc, o, none⟩ = false := fun o => h.frozenAt o
  have c0 := C.out.c0; have c2 := C.out.c2; have c3 := C.out.c3
  have CC := Lib.hid (show compC s i = [.int .i64 (s.E i), .int .i64 (s.P i), .int .i64 (ixS s i), .int .i64 (lfS s i)] from rfl)
  have CC' := Lib.hid (show compC s' i = [.int .i64 (s'.E i), .int .i64 (s'.P i), .int .i64 (ixS s' i), .int .i64 (lfS s' i)] from rfl)
  obtain ⟨E, hE⟩ : ∃ E, s.E i = E := ⟨_, rfl⟩
  obtain ⟨P, hP⟩ : ∃ P, s.P i = P := ⟨_, rfl⟩
  obtain ⟨X, hX⟩ : ∃ X, ixS s i = X := ⟨_, rfl⟩
  obtain ⟨L, hL⟩ : ∃ L, lfS s i = L := ⟨_, rfl⟩
  rw [hE, hP, hX, hL] at CC
  rw [hE, hX, hL] at NX
  rw [hE, hP] at EE
  rw [hE] at c0 b4 b6
  rw [hP] at b6
  rw [hX] at c2 b1 b2
  rw [hL] at c3 b3 b4
  rw [EE.out.1, EE.out.2] at CC'
  rw [CC.out] at AT
  have CW := Lib.hid (comps_wide s)
  obtain ⟨q1, q2⟩ := b6
  clear h hg hE hP hX hL ep ed ei C EE CC
  by_cases z : L = 1
  · subst z
    obtain ⟨n1, n2⟩ := NX.out.1 rfl
    have RR := Lib.hid (show ((((compsC s).flatten.set (i * 4 + 3) (.int .i64 0)).set (i * 4 + 2) (.int .i64 (X + 1))).set (i * 4 + 3) (.int .i64 E)) = (compsC s').flatten by
      rw [flat_setj4 (by omega) _ _ CW.out i _ AT.out, len3]
      rw [flat_setj4 (by omega) _ _ (wide_set CW.out i rfl) i [.int .i64 E, .int .i64 P, .int .i64 X, .int .i64 0] (List.getElem?_set_self (by rw [comps_len]; exact hi)), len2, List.set_set]
      rw [flat_setj4 (by omega) _ _ (wide_set CW.out i rfl) i [.int .i64 E, .int .i64 P, .int .i64 (X + 1), .int .i64 0] (List.getElem?_set_self (by rw [comps_len]; exact hi)), len3, List.set_set]
      rw [CN.out, CC'.out, n1, n2])
    clear n1 n2 NX CC' CN AT
    go_enter Try.func40, Try.ntmps40
    go_wp2
    exact bodyPost_end (v := .tuple #[]) (by simp [results, Try.results40, go_sem]) rfl ⟨rfl, by rw [← RR.out]; exact (((H.out.stored _ _).1.stored _ _).1.stored _ _).1, (((Keeps.refl (fun k => k = gc) w).set (.inl rfl) _ _).set (.inl rfl) _ _).set (.inl rfl) _ _⟩
  · obtain ⟨n1, n2⟩ := NX.out.2 z
    have t1 : (L - 1 == 0) = false := by simp; omega
    have RR := Lib.hid (show (compsC s).flatten.set (i * 4 + 3) (.int .i64 (L - 1)) = (compsC s').flatten by
      rw [flat_setj4 (by omega) _ _ CW.out i _ AT.out, len3]
      rw [CN.out, CC'.out, n1, n2])
    clear n1 n2 NX CC' CN AT z
    go_enter Try.func40, Try.ntmps40
    go_wp2
    exact bodyPost_end (v := .tuple #[]) (by simp [results, Try.results40, go_sem]) rfl ⟨rfl, by rw [← RR.out]; exact (H.out.stored _ _).1, (Keeps.refl (fun k => k = gc) w).set (.inl rfl) _ _⟩
end
end Go.Proofs.Ytnlgophgglgneaa
namespace Go.Proofs.Ytnlgophgglgneaa
open Go.RowKit

def cmpV (a b : Int) : Int := if a < b then -1 else if b < a then 1 else 0
theorem isnan64_any (a : Int) (w : World) : Calls Try.prog 92 #[.int .i64 a] w fun e w' => e = .returned (.bool false) ∧ w = w' := by
  have t : (a != a) = false := by simp
  go_enter Try.func92, Try.ntmps92
  go_wp2
  go_ret
  exact ⟨rfl, rfl⟩
theorem isnan_any (a : Int) (w : World) : Calls Try.prog 93 #[.int .i64 a] w fun e w' => e = .returned (.bool false) ∧ w = w' := by
  have t : (a != a) = false := by simp
  go_enter Try.func93, Try.ntmps93
  go_wp2
  go_ret
  exact ⟨rfl, rfl⟩
theorem compare64_any (a b v : Int) (w : World) (hv : cmpV a b = v) : Calls Try.prog 69 #[.int .i64 a, .int .i64 b] w fun e w' => e = .returned (.int .i64 v) ∧ w = w' := by
  subst hv
  by_cases h1 : a < b
  · have t1 : decide (a < b) = true := by simp; omega
    have V := Lib.hid (show cmpV a b = -1 from if_pos h1)
    go_enter Try.func69, Try.ntmps69
    go_wp2_with ((go_at_call 92; refine (isnan64_any _ _).mono ?_; rintro e w' ⟨rfl, rfl⟩))
    go_ret
    exact ⟨ret_one V.out.symm, rfl⟩
  · have t1 : decide (a < b) = false := by simp; omega
    by_cases h2 : b < a
    · have t2 : decide (b < a) = true := by simp; omega
      have V := Lib.hid (show cmpV a b = 1 by unfold cmpV; rw [if_neg h1, if_pos h2])
      go_enter Try.func69, Try.ntmps69
      go_wp2_with ((go_at_call 92; refine (isnan64_any _ _).mono ?_; rintro e w' ⟨rfl, rfl⟩))
      go_ret
      exact ⟨ret_one V.out.symm, rfl⟩
    · have t2 : decide (b < a) = false := by simp; omega
      have V := Lib.hid (show cmpV a b = 0 by unfold cmpV; rw [if_neg h1, if_neg h2])
      go_enter Try.func69, Try.ntmps69
      go_wp2_with ((go_at_call 92; refine (isnan64_any _ _).mono ?_; rintro e w' ⟨rfl, rfl⟩))
      go_ret
      exact ⟨ret_one V.out.symm, rfl⟩
theorem compare_any (a b v : Int) (w : World) (hv : cmpV a b = v) : Calls Try.prog 70 #[.int .i64 a, .int .i64 b] w fun e w' => e = .returned (.int .i64 v) ∧ w = w' := by
  subst hv
  by_cases h1 : a < b
  · have t1 : decide (a < b) = true := by simp; omega
    have V := Lib.hid (show cmpV a b = -1 from if_pos h1)
    go_enter Try.func70, Try.ntmps70
    go_wp2_with ((go_at_call 93; refine (isnan_any _ _).mono ?_; rintro e w' ⟨rfl, rfl⟩))
    go_ret
    exact ⟨ret_one V.out.symm, rfl⟩
  · have t1 : decide (a < b) = false := by simp; omega
    by_cases h2 : b < a
    · have t2 : decide (b < a) = true := by simp; omega
      have V := Lib.hid (show cmpV a b = 1 by unfold cmpV; rw [if_neg h1, if_pos h2])
      go_enter Try.func70, Try.ntmps70
      go_wp2_with ((go_at_call 93; refine (isnan_any _ _).mono ?_; rintro e w' ⟨rfl, rfl⟩))
      go_ret
      exact ⟨ret_one V.out.symm, rfl⟩
    · have t2 : decide (b < a) = false := by simp; omega
      have V := Lib.hid (show cmpV a b = 0 by unfold cmpV; rw [if_neg h1, if_neg h2])
      go_enter Try.func70, Try.ntmps70
      go_wp2_with ((go_at_call 93; refine (isnan_any _ _).mono ?_; rintro e w' ⟨rfl, rfl⟩))
      go_ret
      exact ⟨ret_one V.out.symm, rfl⟩
def orV (a b : Int) : Int := if a = 0 then b else a
theorem or_any (g : Nat) (a b v : Int) (w : World) (h : Blk w 3 g #[.int .i64 a, .int .i64 b]) (hv : orV a b = v) : Calls Try.prog 68 #[.slice (some ⟨g, 0, none⟩) 2 2] w fun e w' => e = .returned (.int .i64 v) ∧ w = w' := by
  subst hv
  have c0 := h.cell 0
  have c1 := h.cell 1
  simp at c0 c1
  have V := Lib.hid (show (a = 0 → orV a b = b) ∧ (a ≠ 0 → orV a b = a) from ⟨fun q => if_pos q, fun q => if_neg q⟩)
  clear h
  go_enter Try.func68, Try.ntmps68
  go_wp2
  go_loop [8] (fun u => ∃ i : Nat, u = .int .i64 i ∧ i ≤ 2 ∧ (1 ≤ i → a = 0) ∧ (2 ≤ i → b = 0)) (fun u => 2 - (intOf u).toNat)
  case atStart => exact ⟨0, rfl, by omega, (fun h => by omega), (fun h => by omega)⟩
  case round =>
    obtain ⟨i, rfl, i2, ha, hb⟩ := hrel
    have HA := Lib.hid ha; have HB := Lib.hid hb
    clear ha hb
    match i, i2 with
    | 0, _ =>
      by_cases z : a = 0
      · have t : (a != 0) = false := by simp [z]
        have Z := Lib.hid z
        clear z
        go_wp2
        go_round
        case rel => exact ⟨1, rfl, by omega, (fun _ => Z.out), (fun h => by omega)⟩
        case measure => simp [intOf]
      · have t : (a != 0) = true := by simp [z]
        have Z := Lib.hid (V.out.2 z)
        clear z
        go_wp2
        go_ret
        exact ⟨ret_one Z.out.symm, rfl⟩
    | 1, _ =>
      have Z := Lib.hid (V.out.1 (HA.out (by omega)))
      by_cases z : b = 0
      · have t : (b != 0) = false := by simp [z]
        have Z := Lib.hid z
        clear z
        go_wp2
        go_round
        case rel => exact ⟨2, rfl, by omega, (fun _ => HA.out (by omega)), (fun _ => Z.out)⟩
        case measure => simp [intOf]
      · have t : (b != 0) = true := by simp [z]
        clear z
        go_wp2
        go_ret
        exact ⟨ret_one Z.out.symm, rfl⟩
    | 2, _ =>
      have Z := Lib.hid ((V.out.1 (HA.out (by omega))).trans (HB.out (by omega)))
      go_wp2
      go_ret
      exact ⟨ret_one Z.out.symm, rfl⟩
/-! ### the order -/
def cfJ (x y : Jb) : Int := orV (cmpV x.dl y.dl) (cmpV x.part y.part)
/-- draws, and new blocks, alone -/
def Grows (w w' : World) : Prop := ∃ q os, w' = Go.Sort.grow (w.drewN q) os
theorem Grows.refl (w : World) : Grows w w := ⟨0, #[], by rw [Go.Sort.grow_empty]; rfl⟩
theorem Grows.alloc {w w' : World} (h : Grows w w') (o : Obj) : Grows w (w'.alloc o) := by
  obtain ⟨q, os, rfl⟩ := h
  exact ⟨q, os ++ #[o], by rw [Go.Sort.alloc_eq_grow, Go.Sort.grow_grow]⟩
theorem Grows.drew {w w' : World} (h : Grows w w') : Grows w w'.drew := by
  obtain ⟨q, os, rfl⟩ := h
  exact ⟨q + 1, os, rfl⟩
theorem Grows.below {w w' : World} (h : Grows w w') : Below w.heap.size w w' := by
  obtain ⟨q, os, rfl⟩ := h
  exact ⟨rfl, rfl, rfl, by rw [Go.Sort.size_grow]; exact Nat.le_add_right _ _, fun i hi => by rw [Go.Sort.heap_grow_old _ _ (by exact hi)]; rfl⟩
set_option maxHeartbeats 2000000 in
theorem sorder_any (x y : Jb) (v : Int) (w : World) (hv : cfJ x y = v) : Calls Try.prog 46 #[x.v, y.v] w fun e w' => e = .returned (.int .i64 v) ∧ Grows w w' := by
  subst hv
  obtain ⟨p, i, r, d, l⟩ := x
  obtain ⟨p2, i2, r2, d2, l2⟩ := y
  obtain ⟨W0, hW0⟩ : ∃ W0, (w.alloc (.cells #[.int .i64 p, .int .i64 i, .int .i64 r, .int .i64 d, .int .i64 l] 39)).alloc (.cells #[.int .i64 p2, .int .i64 i2, .int .i64 r2, .int .i64 d2, .int .i64 l2] 39) = W0 := ⟨_, rfl⟩
  have G0 := Lib.hid (show Grows w W0 by rw [← hW0]; exact ((Grows.refl w).alloc _).alloc _)
  have X0 := Lib.hid (show Blk W0 39 w.heap.size #[.int .i64 p, .int .i64 i, .int .i64 r, .int .i64 d, .int .i64 l] by rw [← hW0]; exact (Blk.new w _ _).alloc _)
  have Y0 := Lib.hid (show Blk W0 39 (w.heap.size + 1) #[.int .i64 p2, .int .i64 i2, .int .i64 r2, .int .i64 d2, .int .i64 l2] by rw [← hW0]; exact Blk.new2 w _ _ _)
  obtain ⟨A, hA⟩ : ∃ A, cmpV d d2 = A := ⟨_, rfl⟩
  obtain ⟨B, hB⟩ : ∃ B, cmpV p p2 = B := ⟨_, rfl⟩
  have HA := Lib.hid hA; have HB := Lib.hid hB
  obtain ⟨C, hC⟩ : ∃ C, orV A B = C := ⟨_, rfl⟩
  have HC := Lib.hid hC
  have V := Lib.hid (show C = cfJ ⟨p, i, r, d, l⟩ ⟨p2, i2, r2, d2, l2⟩ by rw [← hC, ← hA, ← hB]; rfl)
  clear hA hB hC
  unfold Jb.v
  go_enter Try.func46, Try.ntmps46
  go_upto_region 1 with fail
  clear hW0
  go_region_held3 (fun W => W.cell? ⟨w.heap.size, 0, none⟩ = some (.int .i64 p) ∧ W.cell? ⟨w.heap.size, 3, none⟩ = some (.int .i64 d) ∧ W.cell? ⟨w.heap.size + 1, 0, none⟩ = some (.int .i64 p2) ∧ W.cell? ⟨w.heap.size + 1, 3, none⟩ = some (.int .i64 d2))
    (first | exact ⟨X0.out.cell 0, X0.out.cell 3, Y0.out.cell 0, Y0.out.cell 3⟩ | exact ⟨(X0.out.alloc _).cell 0, (X0.out.alloc _).cell 3, (Y0.out.alloc _).cell 0, (Y0.out.alloc _).cell 3⟩)
    (first
      | (go_at_call 69; ((with_reducible refine (compare64_any d d2 A _ HA.out).mono ?_)); rintro e wa ⟨rfl, rfl⟩)
      | (go_at_call 70; ((with_reducible refine (compare_any p p2 B _ HB.out).mono ?_)); rintro e wa ⟨rfl, rfl⟩)
      | (go_at_call 68; ((with_reducible refine (or_any W0.heap.size A B C _ (Blk.new W0 _ _).drew HC.out).mono ?_)); rintro e wa ⟨rfl, rfl⟩))
  all_goals
    go_wp2
    go_ret
    exact ⟨ret_one V.out, (G0.out.alloc _).drew⟩
end Go.Proofs.Ytnlgophgglgneaa
namespace Go.Proofs.Ytnlgophgglgneaa

def lessJ (x y : Jb) : Bool := decide (cfJ x y < 0)
theorem less_is {x y : Jb} : lessJ x y = true ↔ x.dl < y.dl ∨ (x.dl = y.dl ∧ x.part < y.part) := by
  unfold lessJ cfJ orV cmpV
  rw [decide_eq_true_iff]
  by_cases h1 : x.dl < y.dl
  · simp [h1]
  · by_cases h2 : y.dl < x.dl
    · simp [h1, h2]; omega
    · have e : x.dl = y.dl := by omega
      by_cases h3 : x.part < y.part
      · simp [e, h3]
      · by_cases h4 : y.part < x.part
        · simp [e, h3, h4]
        · simp [e, h3, h4]
theorem less_no {x y : Jb} : lessJ x y = false ↔ ¬ (x.dl < y.dl ∨ (x.dl = y.dl ∧ x.part < y.part)) := by rw [← less_is, Bool.not_eq_true]
theorem swoJ : Go.Sort.SWO lessJ where
  irrefl x := by rw [less_no]; omega
  trans x y z h1 h2 := by rw [less_is] at *; omega
  ntrans x y z h1 h2 := by rw [less_no] at *; omega
def insJ (x : Jb) : List Jb → List Jb
  | [] => [x]
  | y :: r => if lessJ x y then x :: y :: r else y :: insJ x r
def sortJ (l : List Jb) : List Jb := l.foldl (fun acc x => insJ x acc) []
theorem sortJ_snoc (l : List Jb) (x : Jb) : sortJ (l ++ [x]) = insJ x (sortJ l) := by unfold sortJ; rw [List.foldl_append]; rfl
theorem sortJ_nil : sortJ [] = [] := rfl
theorem insJ_perm (x : Jb) (l : List Jb) : (insJ x l).Perm (x :: l) := by
  induction l with
  | nil => exact List.Perm.refl _
  | cons y r ih =>
    unfold insJ
    split
    · exact List.Perm.refl _
    · exact (List.Perm.cons y ih).trans (List.Perm.swap x y r)
theorem foldJ_perm (l acc : List Jb) : (l.foldl (fun acc x => insJ x acc) acc).Perm (acc ++ l) := by
  induction l generalizing acc with
  | nil => simp
  | cons x r ih =>
    rw [List.foldl_cons]
    refine (ih _).trans ?_
    refine ((insJ_perm x acc).append_right r).trans ?_
    rw [List.cons_append]
    exact (List.perm_middle).symm
theorem sortJ_perm (l : List Jb) : (sortJ l).Perm l := foldJ_perm l []
theorem sortJ_len (l : List Jb) : (sortJ l).length = l.length := (sortJ_perm l).length_eq
def SortedJ (l : List Jb) : Prop := l.Pairwise (fun x y => lessJ y x = false)
theorem insJ_sorted (x : Jb) (l : List Jb) (h : SortedJ l) : SortedJ (insJ x l) := by
  induction l with
  | nil => exact List.pairwise_singleton _ _
  | cons y r ih =>
    unfold SortedJ at h ih ⊢
    rw [List.pairwise_cons] at h
    unfold insJ
    split
    · rename_i q
      rw [List.pairwise_cons]
      refine ⟨fun z hz => ?_, List.pairwise_cons.mpr h⟩
      rw [less_is] at q
      rw [less_no]
      rcases List.mem_cons.mp hz with e | e
      · subst e; omega
      · have := h.1 z e
        rw [less_no] at this
        omega
    · rename_i q
      rw [List.pairwise_cons]
      refine ⟨fun z hz => ?_, ih h.2⟩
      rcases List.mem_cons.mp ((insJ_perm x r).mem_iff.mp hz) with e | e
      · subst e; simpa using q
      · exact h.1 z e
theorem foldJ_sorted (l acc : List Jb) (h : SortedJ acc) : SortedJ (l.foldl (fun acc x => insJ x acc) acc) := by
  induction l generalizing acc with
  | nil => exact h
  | cons x r ih => exact ih _ (insJ_sorted x acc h)
theorem sortJ_sorted (l : List Jb) : SortedJ (sortJ l) := foldJ_sorted l [] List.Pairwise.nil
/-- no two of one part have one deadline -/
def KeyedJ (l : List Jb) : Prop := ∀ x ∈ l, ∀ y ∈ l, x.dl = y.dl → x.part = y.part → x = y
theorem sort_one {l r : List Jb} (hk : KeyedJ l) (hp : r.Perm l) (hs : SortedJ r) : r = sortJ l := by
  refine List.Perm.eq_of_pairwise (le := fun x y => lessJ y x = false) (fun a b ha hb h1 h2 => ?_) hs (sortJ_sorted l) (hp.trans (sortJ_perm l).symm)
  rw [less_no] at h1 h2
  exact hk a (hp.mem_iff.mp ha) b ((sortJ_perm l).mem_iff.mp hb) (by omega) (by omega)
/-- the first of a sorted row goes ahead of all -/
theorem sort_head {l : List Jb} {x : Jb} {r : List Jb} (h : sortJ l = x :: r) : x ∈ l ∧ ∀ y ∈ l, lessJ y x = false := by
  have hs := sortJ_sorted l
  rw [h] at hs
  unfold SortedJ at hs
  rw [List.pairwise_cons] at hs
  have hp := sortJ_perm l
  rw [h] at hp
  refine ⟨hp.mem_iff.mp (List.mem_cons_self ..), fun y hy => ?_⟩
  rcases List.mem_cons.mp (hp.mem_iff.mpr hy) with e | e
  · subst e; exact swoJ.irrefl _
  · exact hs.1 y e
theorem sort_some {l : List Jb} (h : l ≠ []) : ∃ x r, sortJ l = x :: r := by
  cases e : sortJ l with
  | nil =>
    have := sortJ_len l
    rw [e] at this
    exact absurd (List.length_eq_zero_iff.mp this.symm) h
  | cons x r => exact ⟨x, r, rfl⟩
/-! ### what waits -/
/-- how many jobs of a part wait: at most 1000 -/
def cntS (s : SS) (t : Int) (i : Nat) : Nat := min 1000 ((t - s.A) / s.P i + 1 - ixS s i).toNat
theorem cnt_is {s : SS} (h : GoodU s) {i k : Nat} (hi : i < s.n) (hk : k < 1000) {t : Int} : (jobS s i k).rel ≤ t ↔ k < cntS s t i := by
  obtain ⟨m1, m2, m3⟩ := h.mb hi
  have hP : 0 < s.P i := by omega
  show s.A + (ixS s i + k) * s.P i ≤ t ↔ _
  have e : s.A + (ixS s i + k) * s.P i ≤ t ↔ ixS s i + k ≤ (t - s.A) / s.P i := by
    constructor
    · intro q; exact Int.le_ediv_of_mul_le hP (by omega)
    · intro q
      have := Int.mul_le_of_le_ediv hP q
      omega
  rw [e]
  unfold cntS
  omega
theorem cnt_le (s : SS) (t : Int) (i : Nat) : cntS s t i ≤ 1000 := Nat.min_le_left _ _
def partJ (s : SS) (i k : Nat) : List Jb := (List.range k).map (jobS s i)
theorem partJ_succ (s : SS) (i k : Nat) : partJ s i (k + 1) = partJ s i k ++ [jobS s i k] := by unfold partJ; rw [List.range_succ, List.map_append]; rfl
theorem partJ_len (s : SS) (i k : Nat) : (partJ s i k).length = k := by unfold partJ; simp
def jobsN (s : SS) (t : Int) : Nat → List Jb
  | 0 => []
  | i + 1 => jobsN s t i ++ partJ s i (cntS s t i)
theorem jobsN_len (s : SS) (t : Int) (i : Nat) : (jobsN s t i).length ≤ 1000 * i := by
  induction i with
  | zero => exact Nat.le_refl _
  | succ i ih => rw [jobsN, List.length_append, partJ_len]; have := cnt_le s t i; omega
theorem jobsN_mem {s : SS} {t : Int} {i : Nat} {x : Jb} (h : x ∈ jobsN s t i) : ∃ j k, j < i ∧ k < cntS s t j ∧ x = jobS s j k := by
  induction i with
  | zero => cases h
  | succ i ih =>
    rcases List.mem_append.mp h with q | q
    · obtain ⟨j, k, h1, h2⟩ := ih q
      exact ⟨j, k, by omega, h2⟩
    · obtain ⟨k, hk, rfl⟩ := List.mem_map.mp q
      exact ⟨i, k, by omega, List.mem_range.mp hk, rfl⟩
theorem mem_jobsN {s : SS} {t : Int} {i j k : Nat} (hj : j < i) (hk : k < cntS s t j) : jobS s j k ∈ jobsN s t i := by
  induction i with
  | zero => omega
  | succ i ih =>
    by_cases e : j = i
    · subst e
      exact List.mem_append_right _ (List.mem_map.mpr ⟨k, List.mem_range.mpr hk, rfl⟩)
    · exact List.mem_append_left _ (ih (by omega))
theorem jobsN_keyed {s : SS} (h : GoodU s) (t : Int) : KeyedJ (jobsN s t s.n) := by
  intro x hx y hy hd hp
  obtain ⟨i, k, hi, _, rfl⟩ := jobsN_mem hx
  obtain ⟨j, l, hj, _, rfl⟩ := jobsN_mem hy
  have e : i = j := by have : (i : Int) = (j : Int) := hp; omega
  subst e
  obtain ⟨m1, m2, m3⟩ := h.mb hi
  have q : s.A + (ixS s i + k) * s.P i + s.P i = s.A + (ixS s i + l) * s.P i + s.P i := hd
  have q2 : (ixS s i + k) * s.P i = (ixS s i + l) * s.P i := by omega
  have q3 := Int.eq_of_mul_eq_mul_right (by omega) q2
  have : k = l := by omega
  rw [this]
/-- P14.2: Jobs -/
def jobsV (s : SS) (t : Int) : List Jb := if mayS s t then sortJ (jobsN s t s.n) else []
theorem jobsV_yes {s : SS} {t : Int} (h : mayS s t = true) : jobsV s t = sortJ (jobsN s t s.n) := if_pos h
theorem jobsV_no {s : SS} {t : Int} (h : mayS s t = false) : jobsV s t = [] := by unfold jobsV; rw [if_neg (by simp [h])]
theorem jobsV_len (s : SS) (t : Int) : (jobsV s t).length ≤ 1000 * s.n := by
  unfold jobsV
  split
  · rw [sortJ_len]; exact jobsN_len s t s.n
  · exact Nat.zero_le _
end Go.Proofs.Ytnlgophgglgneaa

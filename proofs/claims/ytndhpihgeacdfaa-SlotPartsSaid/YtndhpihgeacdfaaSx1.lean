/-
  Package slot's Read: contract.
-/
import Derived.Test.YtndhpihgeacdfaaSx0
import Derived.Test.YtndhpihgeacdfaaSw1
import Derived.Defers
import Derived.Recover
import Derived.Laws.Pointers
namespace Go.Proofs.Ytndhpihgeacdfaa
open Go.RowKit

theorem catch_bad (p q : Nat) (x y : Value) (u : TypeId) (pv : Value) (w : World) (hp : Blk w 22 p #[x]) (hq : Blk w 4 q #[y]) (ne : p ≠ q) :
    CallsD Try.prog 28 #[.pointer (some ⟨p, 0, none⟩), .pointer (some ⟨q, 0, none⟩)] (.panicking [{ v := .iface u pv, recovered := false }]) w fun e u' w' =>
      e = .returned (.tuple #[]) ∧ u' = .panicking [{ v := .iface u pv, recovered := true }] ∧ w' = (w.setCell ⟨p, 0, none⟩ (.slice none 0 0)).setCell ⟨q, 0, none⟩ (.bool false) := by
  have c0 := hp.cell 0; have c1 := hq.cell 0
  have f0 := hp.free 0; have f1 := hq.free 0
  simp at c0 c1
  refine callsD_of_wpS Try.func28 rfl fun c₀ cs hu => ?_
  apply wpS_seq
  apply wpS_region
  simp [wpOpsS, go_sem, recoverD, hu, Try.ntmps28, Exit.thenS]
  refine wpS_cond (t := true) (by simp [Act.eval, Array.replicate]) ?_
  simp only [if_true]
  apply wpS_region
  simp [wpOpsS, go_sem, c0, c1, f0, f1, bodyPostS, results, Try.results28]
theorem catch_idle (p q : Nat) (w : World) :
    CallsD Try.prog 28 #[.pointer (some ⟨p, 0, none⟩), .pointer (some ⟨q, 0, none⟩)] .returning w fun e u' w' => e = .returned (.tuple #[]) ∧ u' = .returning ∧ w' = w := by
  refine callsD_of_wpS Try.func28 rfl fun c₀ cs hu => ?_
  apply wpS_seq
  apply wpS_region
  simp [wpOpsS, go_sem, recoverD, hu, Try.ntmps28, Exit.thenS]
  refine wpS_cond (t := false) (by simp [Act.eval, Array.replicate]) ?_
  simp only [Bool.false_eq_true, if_false]
  refine wpS_of_wp (wp_skip ?_)
  cases c₀
  simp_all [bodyPostS, results, Try.results28]

/-- both results are written -/
theorem two_res {W : World} {p : Nat} {x y a b : Value} (hp : Blk W 22 p #[x]) (hq : Blk W 4 (p + 1) #[y]) :
    Blk ((W.setCell ⟨p, 0, none⟩ a).setCell ⟨p + 1, 0, none⟩ b) 22 p #[a] ∧ Blk ((W.setCell ⟨p, 0, none⟩ a).setCell ⟨p + 1, 0, none⟩ b) 4 (p + 1) #[b] ∧ Keeps (fun k => k = p ∨ k = p + 1) W ((W.setCell ⟨p, 0, none⟩ a).setCell ⟨p + 1, 0, none⟩ b) := by
  have k1 : Keeps (fun k => k = p) W (W.setCell ⟨p, 0, none⟩ a) := (Keeps.refl (fun k => k = p) W).set (.inl rfl) _ _
  have k2 : Keeps (fun k => k = p + 1) (W.setCell ⟨p, 0, none⟩ a) ((W.setCell ⟨p, 0, none⟩ a).setCell ⟨p + 1, 0, none⟩ b) := (Keeps.refl (fun k => k = p + 1) _).set (.inl rfl) _ _
  exact ⟨Blk.keeps (heap_setCell_same W p 0 _ _ a hp) k2 (by omega), heap_setCell_same _ (p + 1) 0 _ _ b (hq.keeps k1 (by omega)), ((Keeps.refl (fun k => k = p ∨ k = p + 1) W).set (.inl (.inl rfl)) _ _).set (.inl (.inr rfl)) _ _⟩

set_option maxRecDepth 20000 in
set_option maxHeartbeats 4000000 in
theorem pread_bs (l : List UInt8) (w : World) (hl : l.length ≤ 1000000000) :
    Calls Try.prog 13 #[.string (BS l)] w (ReadOut l w) := by
  have hmf : ∀ (fn : Fn) (first cap : Array Value) (w : World), (Instr.makeFunc fn first cap).run Try.prog w = .ok (.func fn first cap) w := fun _ _ _ _ => rfl
  go_enter_defers Try.func13, Try.ntmps13
  go_wp2_with fail
  obtain ⟨p, hp⟩ : ∃ p, w.heap.size = p := ⟨_, rfl⟩
  have P0 := Lib.hid (show Blk (((w.alloc (.cells #[.slice none 0 0] 22)).alloc (.cells #[.bool false] 4)).alloc (.cells #[.string (BS l)] 53)) 22 p #[.slice none 0 0] by rw [← hp]; exact ((Blk.new w _ _).alloc _).alloc _)
  have Q0 := Lib.hid (show Blk (((w.alloc (.cells #[.slice none 0 0] 22)).alloc (.cells #[.bool false] 4)).alloc (.cells #[.string (BS l)] 53)) 4 (p + 1) #[.bool false] by rw [← hp]; exact (Blk.new2 w _ _ _).alloc _)
  have R0 := Lib.hid (show Blk (((w.alloc (.cells #[.slice none 0 0] 22)).alloc (.cells #[.bool false] 4)).alloc (.cells #[.string (BS l)] 53)) 53 (p + 1 + 1) #[.string (BS l)] by
    have := Blk.new2 (w.alloc (.cells #[.slice none 0 0] 22)) (.cells #[.bool false] 4) 53 #[.string (BS l)]
    rw [wsize, hp] at this
    exact this)
  have B0 := Lib.hid (show Below p w (((w.alloc (.cells #[.slice none 0 0] 22)).alloc (.cells #[.bool false] 4)).alloc (.cells #[.string (BS l)] 53)) by rw [← hp]; exact wbox3 _ _ _ _)
  obtain ⟨W0, hW0⟩ : ∃ W0, ((w.alloc (.cells #[.slice none 0 0] 22)).alloc (.cells #[.bool false] 4)).alloc (.cells #[.string (BS l)] 53) = W0 := ⟨_, rfl⟩
  have HPW := Lib.hid hp
  rw [hp]
  rw [hW0] at P0 Q0 R0 B0 ⊢
  clear hW0 hp
  refine (prow_read l (p + 1 + 1) W0 hl R0.out).mono ?_
  rintro e w1 hN
  have FG := Lib.hid (show From (fun k => k = p + 1 + 1) p from fun k e => by omega)
  rcases hN with ⟨hok, b, c, rfl, hrow, hx, hk⟩ | ⟨hno, rfl, hk⟩
  · have OK := Lib.hid hok
    have X1 := Lib.hid hx
    have P1 := Lib.hid (P0.out.keeps hk (by omega))
    have Q1 := Lib.hid (Q0.out.keeps hk (by omega))
    have B1 := Lib.hid (show Below p w w1 from hk.below B0.out FG.out (by have := P0.out.lt; omega))
    have W0s : p + 1 + 1 < W0.heap.size := R0.out.lt
    have HR := Lib.hid hrow
    have RD := Lib.hid (fun (q : (readM l).p = l.length) (r : rowB (readM l).slots 1024 = true) => read_is hok.1 q r hok.2)
    have RN := Lib.hid (fun (q : ¬ ((readM l).p = l.length ∧ rowB (readM l).slots 1024 = true)) => read_none (l := l) fun ⟨_, q2, q3, _⟩ => q ⟨q2, q3⟩)
    have SM := Lib.hid (readM_small l)
    have PB := Lib.hid (show (readM l).p ≤ l.length from (itK_bd l (headA l).1 (headN l).1.toNat 0 ⟨[], (headA l).2.1, (headA l).2.2⟩ (headA_bd l).2.2 (by simp)).1)
    obtain ⟨S, hS⟩ : ∃ S, (readM l).slots = S := ⟨_, rfl⟩
    obtain ⟨y, hy⟩ : ∃ y, (readM l).p = y := ⟨_, rfl⟩
    rw [hS] at HR RD RN SM ⊢
    rw [hy] at X1 RD RN PB
    clear hok hx hk hrow hS hy
    obtain ⟨W2, hW2⟩ : ∃ W2, w1.setCell ⟨p, 0, none⟩ (.slice b S.length c) = W2 := ⟨_, rfl⟩
    have K2 := Lib.hid (show Keeps (fun k => k = p) w1 W2 by rw [← hW2]; exact (Keeps.refl (fun k => k = p) w1).set (.inl rfl) _ _)
    have P2 := Lib.hid (show Blk W2 22 p #[.slice b S.length c] by rw [← hW2]; exact heap_setCell_same w1 p 0 _ _ _ P1.out)
    have Q2 := Lib.hid (Q1.out.keeps K2.out (by omega))
    have X2 := Lib.hid (X1.out.keeps K2.out (by omega))
    have B2 := Lib.hid (show Below p w W2 from K2.out.below B1.out (fun k (e : k = p) => by omega) (by have := P1.out.lt; omega))
    have HR2 := Lib.hid (HR.out.keeps K2.out (fun x (e : x = p) => by omega))
    have c0 := P1.out.cell 0
    have f0 := P1.out.free 0
    have c1 := P2.out.cell 0
    have c2 := X2.out.cell 0
    simp at c0 c1 c2
    by_cases z : y = l.length
    · have D := Lib.hid (show BS (l.drop y) = BS [] by rw [z, List.drop_length])
      rw [D.out] at c2
      have e1 : (BS []).toList = [] := BS_list []
      go_wp2_with fail
      refine (prow_any b S.length c S 1024 W2 HR2.out.row).mono ?_
      rintro e w3 ⟨rfl, hb⟩
      have P3 := Lib.hid (P2.out.below hb)
      have Q3 := Lib.hid (Q2.out.below hb)
      have B3 := Lib.hid (show Below p w w3 from B2.out.trans (hb.mono (by have := P2.out.lt; omega)))
      have HR3 := Lib.hid (HR2.out.keeps (Keeps.of (F := fun _ => False) hb) (fun x e => e.elim))
      clear hb c0 c1 c2
      cases hr : rowB S 1024 with
      | false =>
        have NV := Lib.hid (RN.out fun q => by rw [q.2] at hr; cases hr)
        clear hr
        go_wp2
        have V := Lib.hid (show ReadOut l w (.returned (.tuple #[.slice none 0 0, .bool false])) ((w3.setCell ⟨p, 0, none⟩ (.slice none 0 0)).setCell ⟨p + 1, 0, none⟩ (.bool false)) from .no NV.out (by rw [HPW.out]; exact (two_res (a := .slice none 0 0) (b := .bool false) P3.out Q3.out).2.2.below B3.out (fun k e => by omega) (by have := P3.out.lt; omega)))
        have s0 := ((two_res (a := .slice none 0 0) (b := .bool false) P3.out Q3.out).1).cell 0
        have s1 := ((two_res (a := .slice none 0 0) (b := .bool false) P3.out Q3.out).2.1).cell 0
        simp at s0 s1
        refine leaves_cons (f := 28) (args := #[.pointer (some ⟨p, 0, none⟩), .pointer (some ⟨p + 1, 0, none⟩)]) (by simp) (by simp [go_sem]) ?_
        refine (catch_bad p (p + 1) _ _ _ _ _ P3.out Q3.out (by omega)).mono ?_
        rintro e u' w'' ⟨rfl, rfl, rfl⟩
        simp [Leaves, settle, results, Try.results13, go_sem, s0, s1]
        exact V.out
      | true =>
        have YV := Lib.hid (RD.out z hr)
        clear hr
        have c0 := P3.out.cell 0; have c1 := Q3.out.cell 0
        have f0 := P3.out.free 0; have f1 := Q3.out.free 0
        simp at c0 c1
        have V := Lib.hid (show ReadOut l w (.returned (.tuple #[.slice b S.length c, .bool true])) ((w3.setCell ⟨p, 0, none⟩ (.slice b S.length c)).setCell ⟨p + 1, 0, none⟩ (.bool true)) from .yes YV.out
          (HR3.out.keeps (two_res (a := .slice b S.length c) (b := .bool true) P3.out Q3.out).2.2 (fun x e => by omega)).row (by rw [HPW.out]; exact (two_res (a := .slice b S.length c) (b := .bool true) P3.out Q3.out).2.2.below B3.out (fun k e => by omega) (by have := P3.out.lt; omega)))
        have s0 := ((two_res (a := .slice b S.length c) (b := .bool true) P3.out Q3.out).1).cell 0
        have s1 := ((two_res (a := .slice b S.length c) (b := .bool true) P3.out Q3.out).2.1).cell 0
        simp at s0 s1
        go_wp2
        refine leaves_cons (f := 28) (args := #[.pointer (some ⟨p, 0, none⟩), .pointer (some ⟨p + 1, 0, none⟩)]) (by simp) (by simp [go_sem]) ?_
        refine (catch_idle p (p + 1) _).mono ?_
        rintro e u' w'' ⟨rfl, rfl, rfl⟩
        simp [Leaves, settle, results, Try.results13, go_sem, s0, s1]
        exact V.out
    · have NV := Lib.hid (RN.out fun q => z q.1)
      have D := Lib.hid (show l.drop y ≠ [] from fun e => by
        have : (l.drop y).length = 0 := by rw [e]; rfl
        rw [List.length_drop] at this
        have := PB.out
        omega)
      have e1 : ¬ (BS (l.drop y)).toList = [] := by rw [BS_list]; exact D.out
      go_wp2
      have V := Lib.hid (show ReadOut l w (.returned (.tuple #[.slice none 0 0, .bool false])) ((W2.setCell ⟨p, 0, none⟩ (.slice none 0 0)).setCell ⟨p + 1, 0, none⟩ (.bool false)) from .no NV.out (by rw [HPW.out]; exact (two_res (a := .slice none 0 0) (b := .bool false) P2.out Q2.out).2.2.below B2.out (fun k e => by omega) (by have := P2.out.lt; omega)))
      have s0 := ((two_res (a := .slice none 0 0) (b := .bool false) P2.out Q2.out).1).cell 0
      have s1 := ((two_res (a := .slice none 0 0) (b := .bool false) P2.out Q2.out).2.1).cell 0
      simp at s0 s1
      refine leaves_cons (f := 28) (args := #[.pointer (some ⟨p, 0, none⟩), .pointer (some ⟨p + 1, 0, none⟩)]) (by simp) (by simp [go_sem]) ?_
      refine (catch_bad p (p + 1) _ _ _ _ _ P2.out Q2.out (by omega)).mono ?_
      rintro e u' w'' ⟨rfl, rfl, rfl⟩
      simp [Leaves, settle, results, Try.results13, go_sem, s0, s1]
      exact V.out
  · have NV := Lib.hid (show readV l = none from read_none fun ⟨q1, _, _, q4⟩ => hno ⟨q1, q4⟩)
    have P1 := Lib.hid (P0.out.keeps hk (by omega))
    have Q1 := Lib.hid (Q0.out.keeps hk (by omega))
    have B1 := Lib.hid (show Below p w w1 from hk.below B0.out FG.out (by have := P0.out.lt; omega))
    clear hk hno
    unfold PE
    go_wp2
    have V := Lib.hid (show ReadOut l w (.returned (.tuple #[.slice none 0 0, .bool false])) ((w1.setCell ⟨p, 0, none⟩ (.slice none 0 0)).setCell ⟨p + 1, 0, none⟩ (.bool false)) from .no NV.out (by rw [HPW.out]; exact (two_res (a := .slice none 0 0) (b := .bool false) P1.out Q1.out).2.2.below B1.out (fun k e => by omega) (by have := P1.out.lt; omega)))
    have s0 := ((two_res (a := .slice none 0 0) (b := .bool false) P1.out Q1.out).1).cell 0
    have s1 := ((two_res (a := .slice none 0 0) (b := .bool false) P1.out Q1.out).2.1).cell 0
    simp at s0 s1
    refine leaves_cons (f := 28) (args := #[.pointer (some ⟨p, 0, none⟩), .pointer (some ⟨p + 1, 0, none⟩)]) (by simp) (by simp [go_sem]) ?_
    refine (catch_bad p (p + 1) _ _ _ _ _ P1.out Q1.out (by omega)).mono ?_
    rintro e u' w'' ⟨rfl, rfl, rfl⟩
    simp [Leaves, settle, results, Try.results13, go_sem, s0, s1]
    exact V.out
theorem pread_any (s : ByteArray) (w : World) (hs : s.size ≤ 1000000000) : Calls Try.prog 13 #[.string s] w (ReadOut s.data.toList w) := by
  have e : s = BS s.data.toList := by apply ByteArray.ext; simp [BS]
  have h := pread_bs s.data.toList w (by simpa using hs)
  rw [← e] at h
  exact h
end Go.Proofs.Ytndhpihgeacdfaa

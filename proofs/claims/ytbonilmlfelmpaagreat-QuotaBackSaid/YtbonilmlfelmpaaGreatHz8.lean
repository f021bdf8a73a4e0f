/-
  Package hold as landed: Of, Settle, Free: contracts.
-/
import Derived.Test.YtbonilmlfelmpaaGreatHzA
import Derived.BigRegion
namespace Go.Proofs.YtbonilmlfelmpaaGreat
open Go.RowKit

/-- find tells so of a ledger, whatever new memory is made -/
def FindsH (w : World) (p : Value) (id E P NE NP er : Int) : Prop := ∀ W, Below w.heap.size w W → Calls Tryz.prog 65 #[p, .int .i64 id] W fun e w' => e = .returned (.tuple #[.agg #[.int .i64 E, .int .i64 P, .int .i64 NE, .int .i64 NP], .int .i64 er]) ∧ Below W.heap.size W w'
theorem finds_nil (w : World) (id : Int) : FindsH w (.pointer none) id 0 0 0 0 1 := fun W _ => hfind_nil id W
theorem finds_none {w : World} {g m : Nat} {A : Nat → Prop} {an : Option Addr} {ln cn : Nat} {ad : Option Addr} {ld cd : Nat} {N D : Int} {hs : List Hd} (id : Int) (h : LH w g m A an ln cn ad ld cd N D hs) (hf : findH hs id = none) : FindsH w (.pointer (some ⟨g, 0, none⟩)) id 0 0 0 0 12 := fun _ hW => hfind_none id (h.below hW) hf
theorem finds_some {w : World} {g m : Nat} {A : Nat → Prop} {an : Option Addr} {ln cn : Nat} {ad : Option Addr} {ld cd : Nat} {N D : Int} {hs : List Hd} (id : Int) {j : Nat} {x : Hd} (h : LH w g m A an ln cn ad ld cd N D hs) (hf : findH hs id = some j) (hx : hs[j]? = some x) : FindsH w (.pointer (some ⟨g, 0, none⟩)) id x.E x.P x.NE x.NP 0 := fun _ hW => hfind_some id j x (h.below hW) hf hx
set_option maxHeartbeats 1000000 in
theorem hof_with (w : World) (p : Option Addr) (id E P NE NP er : Int) (hfd : FindsH w (.pointer p) id E P NE NP er) (b : Bool) (hb : (er == 0) = b) :
    Calls Tryz.prog 37 #[.pointer p, .int .i64 id] w fun z w' => z = .returned (.tuple #[.agg #[.int .i64 E, .int .i64 P], .agg #[.int .i64 NE, .int .i64 NP], .bool b]) ∧ Below w.heap.size w w' := by
  obtain ⟨W0, hW0⟩ : ∃ W0, (w.alloc (.cells #[.int .i64 0, .int .i64 0] 46)).alloc (.cells #[.int .i64 0, .int .i64 0] 46) = W0 := ⟨_, rfl⟩
  have B0 := Lib.hid (show Below w.heap.size w W0 by rw [← hW0]; exact wbox2 _ _ _)
  have X0 := Lib.hid (show Box W0 46 w.heap.size (.int .i64 0) (.int .i64 0) by rw [← hW0]; exact (Blk.new w _ _).alloc _)
  have Y0 := Lib.hid (show Box W0 46 (w.heap.size + 1) (.int .i64 0) (.int .i64 0) by rw [← hW0]; exact Blk.new2 w _ _ _)
  have FD := Lib.hid hfd
  clear hfd
  go_enter Tryz.func37, Tryz.ntmps37
  go_wp2_with fail
  (try rw [hW0])
  refine (FD.out W0 B0.out).mono ?_
  rintro e w2 ⟨rfl, hb2⟩
  have X2 := Lib.hid (X0.out.below hb2)
  have Y2 := Lib.hid (Y0.out.below hb2)
  have B2 := Lib.hid (below_next B0.out hb2)
  clear hb2 hW0
  obtain ⟨w3, hw3⟩ : ∃ w3, w2.alloc (.cells #[.int .i64 E, .int .i64 P, .int .i64 NE, .int .i64 NP] 103) = w3 := ⟨_, rfl⟩
  have b3 : Below w2.heap.size w2 w3 := by rw [← hw3]; exact wbox _ _
  have K := Lib.hid (show Blk w3 103 w2.heap.size #[.int .i64 E, .int .i64 P, .int .i64 NE, .int .i64 NP] by rw [← hw3]; exact Blk.new _ _ _)
  have X3 := Lib.hid (X2.out.below b3)
  have Y3 := Lib.hid (Y2.out.below b3)
  have B3 := Lib.hid (below_next B2.out b3)
  have k0 := K.out.cell 0; have k1 := K.out.cell 1; have k2 := K.out.cell 2; have k3 := K.out.cell 3
  simp at k0 k1 k2 k3
  have x0 := X3.out.c0; have x1 := X3.out.c1; have y0 := Y3.out.c0; have y1 := Y3.out.c1
  have f0 := Blk.free X3.out 0; have f1 := Blk.free X3.out 1
  have g0 := Blk.free Y3.out 0; have g1 := Blk.free Y3.out 1
  clear b3
  go_upto_region 2 with fail
  (try rw [hw3])
  clear hw3
  go_region
  go_wp2
  have ne : ∀ j k : Nat, (⟨w.heap.size, j, none⟩ : Addr) ≠ ⟨w.heap.size + 1, k, none⟩ := fun j k e => by have := congrArg Addr.block e; simp at this
  exact bodyPost_ret (v := .tuple #[.agg #[.int .i64 E, .int .i64 P], .agg #[.int .i64 NE, .int .i64 NP], .bool b]) (by simp [results, Tryz.results37, go_sem, x0, x1, y0, y1]) rfl ⟨rfl, ((((B3.out.setCell (Nat.le_refl _) _).setCell (Nat.le_refl _) _).setCell (Nat.le_succ _) _).setCell (Nat.le_succ _) _).drew⟩
theorem hsettle_err (w : World) (p : Option Addr) (id er : Int) (he : er = 1 ∨ er = 12) (hfd : FindsH w (.pointer p) id 0 0 0 0 er) :
    Calls Tryz.prog 45 #[.pointer p, .int .i64 id] w fun z w' => z = .returned (.int .i64 er) ∧ Below w.heap.size w w' := by
  have FD := Lib.hid hfd
  clear hfd
  rcases he with rfl | rfl
  all_goals
    go_enter Tryz.func45, Tryz.ntmps45
    go_wp2_with fail
    refine (FD.out w (Below.refl _ _)).mono ?_
    rintro e w2 ⟨rfl, hb⟩
    have B := Lib.hid hb
    clear hb
    go_wp2
    go_ret
    exact ⟨rfl, below_next B.out (wbox _ _)⟩
theorem hfree_err (w : World) (p : Option Addr) (id er : Int) (he : er = 1 ∨ er = 12) (hfd : FindsH w (.pointer p) id 0 0 0 0 er) :
    Calls Tryz.prog 47 #[.pointer p, .int .i64 id] w fun z w' => z = .returned (.int .i64 er) ∧ Below w.heap.size w w' := by
  have FD := Lib.hid hfd
  clear hfd
  rcases he with rfl | rfl
  all_goals
    go_enter Tryz.func47, Tryz.ntmps47
    go_wp2_with fail
    refine (FD.out w (Below.refl _ _)).mono ?_
    rintro e w2 ⟨rfl, hb⟩
    have B := Lib.hid hb
    clear hb
    go_wp2
    go_ret
    exact ⟨rfl, below_next B.out (wbox _ _)⟩
/-- the ledger's list is another one, all else but its map is as it was -/
def StayL (w : World) (g m : Nat) (A : Nat → Prop) (an : Option Addr) (ln cn : Nat) (ad : Option Addr) (ld cd : Nat) (N D : Int) (hs : List Hd) (w' : World) : Prop :=
  LH w' g m A an ln cn ad ld cd N D hs ∧ Keeps (fun k => k = m) w w'
theorem StayL.of {w w1 w2 : World} {g m : Nat} {A : Nat → Prop} {an : Option Addr} {ln cn : Nat} {ad : Option Addr} {ld cd : Nat} {N D : Int} {hs hs' : List Hd} (h : LH w1 g m A an ln cn ad ld cd N D hs) (hb : Below w.heap.size w w1) (hA : ∀ k, A k → k ≠ m) (hm : MapH w2 m hs') (hk : Keeps (fun k => k = m) w1 w2) : StayL w g m A an ln cn ad ld cd N D hs' w2 :=
  ⟨h.keeps hk (fun e => h.ne e) (fun x hx e => hA x hx e) hm, (Keeps.of hb).trans hk (fun _ q => .inl q)⟩
theorem StayL.drew {w w2 : World} {g m : Nat} {A : Nat → Prop} {an : Option Addr} {ln cn : Nat} {ad : Option Addr} {ld cd : Nat} {N D : Int} {hs : List Hd} (h : StayL w g m A an ln cn ad ld cd N D hs w2) : StayL w g m A an ln cn ad ld cd N D hs w2.drew := ⟨h.1.drew, h.2.drew⟩
theorem hsettle_state {w : World} {g m : Nat} {A : Nat → Prop} {an : Option Addr} {ln cn : Nat} {ad : Option Addr} {ld cd : Nat} {N D : Int} {hs : List Hd} (id : Int) (j : Nat) (x : Hd) (h : LH w g m A an ln cn ad ld cd N D hs) (hf : findH hs id = some j) (hx : hs[j]? = some x) (ha : askB x.NE x.NP = false) :
    Calls Tryz.prog 45 #[.pointer (some ⟨g, 0, none⟩), .int .i64 id] w fun z w' => z = .returned (.int .i64 13) ∧ Below w.heap.size w w' := by
  have FD := Lib.hid (finds_some id h hf hx)
  have HA := Lib.hid ha
  clear ha h
  go_enter Tryz.func45, Tryz.ntmps45
  go_wp2_with fail
  refine (FD.out w (Below.refl _ _)).mono ?_
  rintro e w2 ⟨rfl, hb⟩
  obtain ⟨w3, hw3⟩ : ∃ w3, w2.alloc (.cells #[.int .i64 x.E, .int .i64 x.P, .int .i64 x.NE, .int .i64 x.NP] 103) = w3 := ⟨_, rfl⟩
  have K := Lib.hid (show Blk w3 103 w2.heap.size #[.int .i64 x.E, .int .i64 x.P, .int .i64 x.NE, .int .i64 x.NP] by rw [← hw3]; exact Blk.new _ _ _)
  have B := Lib.hid (show Below w.heap.size w w3 by rw [← hw3]; exact below_next hb (wbox _ _))
  have k0 := K.out.cell 0; have k1 := K.out.cell 1; have k2 := K.out.cell 2; have k3 := K.out.cell 3
  simp at k0 k1 k2 k3
  clear hb
  go_wp2_with fail
  (try rw [hw3])
  refine (hasked_any _ _ _ _ false _ HA.out).mono ?_
  rintro e w4 ⟨rfl, hb⟩
  have B := Lib.hid (below_next B.out hb)
  clear hb
  go_wp2
  go_ret
  exact ⟨rfl, B.out⟩
set_option maxHeartbeats 1000000 in
theorem hsettle_yes {w : World} {g m : Nat} {A : Nat → Prop} {an : Option Addr} {ln cn : Nat} {ad : Option Addr} {ld cd : Nat} {N D : Int} {hs : List Hd} (id : Int) (j : Nat) (x : Hd) (h : LH w g m A an ln cn ad ld cd N D hs) (hA : ∀ k, A k → k ≠ m) (hf : findH hs id = some j) (hx : hs[j]? = some x) (ha : askB x.NE x.NP = true) :
    Calls Tryz.prog 45 #[.pointer (some ⟨g, 0, none⟩), .int .i64 id] w fun z w' => z = .returned (.int .i64 0) ∧ StayL w g m A an ln cn ad ld cd N D (hs.set j (newH id x.NE x.NP)) w' := by
  have FD := Lib.hid (finds_some id h hf hx)
  have H := Lib.hid h
  have AM := Lib.hid hA
  have HA := Lib.hid ha
  clear ha h hA
  go_enter Tryz.func45, Tryz.ntmps45
  go_wp2_with fail
  refine (FD.out w (Below.refl _ _)).mono ?_
  rintro e w2 ⟨rfl, hb⟩
  obtain ⟨w3, hw3⟩ : ∃ w3, w2.alloc (.cells #[.int .i64 x.E, .int .i64 x.P, .int .i64 x.NE, .int .i64 x.NP] 103) = w3 := ⟨_, rfl⟩
  have K := Lib.hid (show Blk w3 103 w2.heap.size #[.int .i64 x.E, .int .i64 x.P, .int .i64 x.NE, .int .i64 x.NP] by rw [← hw3]; exact Blk.new _ _ _)
  have B := Lib.hid (show Below w.heap.size w w3 by rw [← hw3]; exact below_next hb (wbox _ _))
  have k0 := K.out.cell 0; have k1 := K.out.cell 1; have k2 := K.out.cell 2; have k3 := K.out.cell 3
  simp at k0 k1 k2 k3
  clear hb
  go_wp2_with fail
  (try rw [hw3])
  refine (hasked_any _ _ _ _ true _ HA.out).mono ?_
  rintro e w4 ⟨rfl, hb⟩
  have K4 := Lib.hid (K.out.below hb)
  have B := Lib.hid (below_next B.out hb)
  clear hb k0 k1 k2 k3 hw3
  have H4 := Lib.hid (H.out.below B.out)
  have c2 := H4.out.blk.cell 2
  have k2 := K4.out.cell 2; have k3 := K4.out.cell 3
  simp at c2 k2 k3
  obtain ⟨w5, hrun, hm5, hk5, _⟩ := putH_old (n := newH id x.NE x.NP) H4.out.drew.map hf hx
  have HM := Lib.hid hm5
  have HK := Lib.hid hk5
  unfold Hd.mv newH at hrun
  simp only at hrun
  clear hm5 hk5
  go_upto_region 6 with fail
  go_region
  all_goals
    go_wp2
    go_ret
    exact ⟨rfl, StayL.of H4.out.drew B.out.drew AM.out HM.out HK.out⟩
set_option maxHeartbeats 1000000 in
theorem hfree_yes {w : World} {g m : Nat} {A : Nat → Prop} {an : Option Addr} {ln cn : Nat} {ad : Option Addr} {ld cd : Nat} {N D : Int} {hs : List Hd} (id : Int) (j : Nat) (x : Hd) (h : LH w g m A an ln cn ad ld cd N D hs) (hA : ∀ k, A k → k ≠ m) (hf : findH hs id = some j) (hx : hs[j]? = some x) :
    Calls Tryz.prog 47 #[.pointer (some ⟨g, 0, none⟩), .int .i64 id] w fun z w' => z = .returned (.int .i64 0) ∧ StayL w g m A an ln cn ad ld cd N D (hs.eraseIdx j) w' := by
  have FD := Lib.hid (finds_some id h hf hx)
  have H := Lib.hid h
  have AM := Lib.hid hA
  clear h hA
  go_enter Tryz.func47, Tryz.ntmps47
  go_wp2_with fail
  refine (FD.out w (Below.refl _ _)).mono ?_
  rintro e w2 ⟨rfl, hb⟩
  obtain ⟨w3, hw3⟩ : ∃ w3, w2.alloc (.cells #[.int .i64 x.E, .int .i64 x.P, .int .i64 x.NE, .int .i64 x.NP] 103) = w3 := ⟨_, rfl⟩
  have B := Lib.hid (show Below w.heap.size w w3 by rw [← hw3]; exact below_next hb (wbox _ _))
  have H3 := Lib.hid (H.out.below B.out)
  have c2 := H3.out.blk.cell 2
  simp at c2
  obtain ⟨w5, hrun, hm5, hk5, _⟩ := delH 0 H3.out.map hf
  have HM := Lib.hid hm5
  have HK := Lib.hid hk5
  clear hm5 hk5 hb
  go_wp2
  go_ret
  exact ⟨rfl, StayL.of H3.out B.out AM.out HM.out HK.out⟩
end Go.Proofs.YtbonilmlfelmpaaGreat

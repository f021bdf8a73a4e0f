/-
  Package hold as landed: a ledger in memory; asked, find, room, counts: contracts.
-/
import Derived.Test.YtphlkpkbdnddlaaHz1
import Derived.Laws.StructEq
namespace Go.Proofs.Ytphlkpkbdnddlaa
open Go.RowKit

theorem Row.keepsA {W W' : World} {G A : Nat → Prop} {a : Option Addr} {len cap : Nat} {zs : List Int} (h : Row .u32 W a len cap zs) (k : Keeps G W W') (hA : ∀ b, a = some b → 0 < len → A b.block) (hG : ∀ x, A x → ¬ G x) : Row .u32 W' a len cap zs := by
  refine ⟨h.1, h.2.1, h.2.2.1, h.2.2.2.1, fun i hi => ?_⟩
  obtain ⟨b, off, ha, hc⟩ := h.2.2.2.2 i hi
  exact ⟨b, off, ha, (World.cell?_of_block (w := W) (a := ⟨b, off + i, none⟩) (k.block b (World.block_lt_of_cell? _ _ hc) (hG b (hA _ ha (by omega))))).trans hc⟩
/-- the landed ledger at block g, its map at m: of what New was given it reads the blocks of A -/
structure LH (w : World) (g m : Nat) (A : Nat → Prop) (an : Option Addr) (ln cn : Nat) (ad : Option Addr) (ld cd : Nat) (N D : Int) (hs : List Hd) : Prop where
  blk : Blk w 68 g #[.slice an ln cn, .slice ad ld cd, .map (some m)]
  rat : ∃ zn zd, Row .u32 w an ln cn zn ∧ Is 4294967296 zn N ∧ Row .u32 w ad ld cd zd ∧ Is 4294967296 zd D
  small : ln ≤ 3 ∧ ld ≤ 3
  inA : (∀ b, an = some b → 0 < ln → A b.block) ∧ (∀ b, ad = some b → 0 < ld → A b.block)
  lies : Lies A w
  map : MapH w m hs
  ne : g ≠ m
theorem LH.ratio {w : World} {g m : Nat} {A : Nat → Prop} {an : Option Addr} {ln cn : Nat} {ad : Option Addr} {ld cd : Nat} {N D : Int} {hs : List Hd} (h : LH w g m A an ln cn ad ld cd N D hs) : Rat w 0 3 (.agg #[.slice an ln cn, .slice ad ld cd]) N D := by
  obtain ⟨zn, zd, h1, h2, h3, h4⟩ := h.rat
  exact ⟨an, ln, cn, zn, ad, ld, cd, zd, rfl, h1, h2, h3, h4, h.small.1, h.small.2, fresh0 _, fresh0 _⟩
theorem LH.keeps {w w' : World} {G : Nat → Prop} {g m : Nat} {A : Nat → Prop} {an : Option Addr} {ln cn : Nat} {ad : Option Addr} {ld cd : Nat} {N D : Int} {hs hs' : List Hd} (h : LH w g m A an ln cn ad ld cd N D hs) (k : Keeps G w w') (hg : ¬ G g) (hA : ∀ x, A x → ¬ G x) (hm : MapH w' m hs') : LH w' g m A an ln cn ad ld cd N D hs' := by
  obtain ⟨zn, zd, h1, h2, h3, h4⟩ := h.rat
  exact ⟨h.blk.keeps k hg, ⟨zn, zd, h1.keepsA k h.inA.1 hA, h2, h3.keepsA k h.inA.2 hA, h4⟩, h.small, h.inA, h.lies.next k.size, hm, h.ne⟩
theorem LH.below {w w' : World} {g m : Nat} {A : Nat → Prop} {an : Option Addr} {ln cn : Nat} {ad : Option Addr} {ld cd : Nat} {N D : Int} {hs : List Hd} (h : LH w g m A an ln cn ad ld cd N D hs) (k : Below w.heap.size w w') : LH w' g m A an ln cn ad ld cd N D hs :=
  h.keeps (G := fun _ => False) (Keeps.of k) (fun q => q) (fun _ _ q => q) (h.map.below k)
theorem LH.drew {w : World} {g m : Nat} {A : Nat → Prop} {an : Option Addr} {ln cn : Nat} {ad : Option Addr} {ld cd : Nat} {N D : Int} {hs : List Hd} (h : LH w g m A an ln cn ad ld cd N D hs) : LH w.drew g m A an ln cn ad ld cd N D hs := h.below (Below.refl _ _).drew
/-- it asked for another one -/
def askB (NE NP : Int) : Bool := !(NE == 0 && NP == 0)
theorem asked_is {N D : Int} {hs : List Hd} (g : GoodL N D hs) {x : Hd} (h : x ∈ hs) : askB x.NE x.NP = x.asked := by
  unfold askB
  cases q : x.asked with
  | false =>
    obtain ⟨h1, h2⟩ := g.none x h q
    rw [h1, h2]; rfl
  | true =>
    have := (g.each x h).next q
    have : ¬ x.NE = 0 := by have := this.1; omega
    simp [this]
theorem hasked_any (E P NE NP : Int) (b : Bool) (w : World) (hb : askB NE NP = b) : Calls Try.prog 38 #[.agg #[.int .i64 E, .int .i64 P, .int .i64 NE, .int .i64 NP]] w fun e w' => e = .returned (.bool b) ∧ Below w.heap.size w w' := by
  subst hb
  obtain ⟨w1, hw1⟩ : ∃ w1, w.alloc (.cells #[.int .i64 E, .int .i64 P, .int .i64 NE, .int .i64 NP] 71) = w1 := ⟨_, rfl⟩
  have K := Blk.new w 71 #[.int .i64 E, .int .i64 P, .int .i64 NE, .int .i64 NP]
  have B : Below w.heap.size w w1 := by rw [← hw1]; exact wbox _ _
  rw [hw1] at K
  have c2 := K.cell 2; have c3 := K.cell 3
  simp at c2 c3
  unfold askB
  cases q1 : NE == 0 <;> cases q2 : NP == 0
  all_goals
    go_enter Try.func38, Try.ntmps38
    go_wp2
    go_ret
    exact ⟨rfl, B⟩
theorem hfind_nil (id : Int) (w : World) : Calls Try.prog 37 #[.pointer none, .int .i64 id] w fun e w' => e = .returned (.tuple #[.agg #[.int .i64 0, .int .i64 0, .int .i64 0, .int .i64 0], .int .i64 1]) ∧ Below w.heap.size w w' := by
  go_enter Try.func37, Try.ntmps37
  go_wp2
  exact bodyPost_ret (v := .tuple #[.agg #[.int .i64 0, .int .i64 0, .int .i64 0, .int .i64 0], .int .i64 1]) (by simp [results, Try.results37, go_sem]) rfl ⟨rfl, wbox _ _⟩
theorem hfind_none {w : World} {g m : Nat} {A : Nat → Prop} {an : Option Addr} {ln cn : Nat} {ad : Option Addr} {ld cd : Nat} {N D : Int} {hs : List Hd} (id : Int) (h : LH w g m A an ln cn ad ld cd N D hs) (hf : findH hs id = none) :
    Calls Try.prog 37 #[.pointer (some ⟨g, 0, none⟩), .int .i64 id] w fun e w' => e = .returned (.tuple #[.agg #[.int .i64 0, .int .i64 0, .int .i64 0, .int .i64 0], .int .i64 12]) ∧ Below w.heap.size w w' := by
  have H := Lib.hid h
  have B0 := Lib.hid (wbox w (.cells #[.int .i64 0, .int .i64 0, .int .i64 0, .int .i64 0] 71))
  have c2 := (H.out.below B0.out).blk.cell 2
  have hl := lookH_no (H.out.below B0.out).map hf
  simp at c2
  go_enter Try.func37, Try.ntmps37
  go_wp2
  exact bodyPost_ret (v := .tuple #[.agg #[.int .i64 0, .int .i64 0, .int .i64 0, .int .i64 0], .int .i64 12]) (by simp [results, Try.results37, go_sem]) rfl ⟨rfl, wbox2 _ _ _⟩
theorem hfind_some {w : World} {g m : Nat} {A : Nat → Prop} {an : Option Addr} {ln cn : Nat} {ad : Option Addr} {ld cd : Nat} {N D : Int} {hs : List Hd} (id : Int) (j : Nat) (x : Hd) (h : LH w g m A an ln cn ad ld cd N D hs) (hf : findH hs id = some j) (hx : hs[j]? = some x) :
    Calls Try.prog 37 #[.pointer (some ⟨g, 0, none⟩), .int .i64 id] w fun e w' => e = .returned (.tuple #[.agg #[.int .i64 x.E, .int .i64 x.P, .int .i64 x.NE, .int .i64 x.NP], .int .i64 0]) ∧ Below w.heap.size w w' := by
  have H := Lib.hid h
  have B0 := Lib.hid (wbox w (.cells #[.int .i64 0, .int .i64 0, .int .i64 0, .int .i64 0] 71))
  have c2 := (H.out.below B0.out).blk.cell 2
  have hl := lookH_yes (H.out.below B0.out).map hf hx
  unfold Hd.mv at hl
  simp at c2
  go_enter Try.func37, Try.ntmps37
  go_wp2
  exact bodyPost_ret (v := .tuple #[.agg #[.int .i64 x.E, .int .i64 x.P, .int .i64 x.NE, .int .i64 x.NP], .int .i64 0]) (by simp [results, Try.results37, go_sem]) rfl ⟨rfl, wbox2 _ _ _⟩
theorem hroom_nil (w : World) : Calls Try.prog 45 #[.pointer none] w (GivesQ w 2 0 1) := by
  have X0 := Lib.hid (Box.new w 27 (.slice none 0 0) (.slice none 0 0))
  have B0 := Lib.hid (wbox w (.cells #[.slice none 0 0, .slice none 0 0] 27))
  go_enter Try.func45, Try.ntmps45
  go_wp2_with fail
  refine (whole_any 0 _ (by omega) (by omega)).mono ?_
  rintro e w1 ⟨_, rfl, hr, hb⟩
  obtain ⟨p1, p2, p3, z1, q1, q2, q3, z2, rfl, _⟩ := id hr
  have X1 := Lib.hid (X0.out.below hb)
  have B1 := Lib.hid (below_next B0.out hb)
  have R1 := Lib.hid (box_set X1.out hr).2
  have x0 := X1.out.c0; have x1 := X1.out.c1
  have f0 : w1.frozen? ⟨w.heap.size, 0, none⟩ = false := block_free X1.out
  have f1 : w1.frozen? ⟨w.heap.size, 1, none⟩ = false := block_free X1.out
  clear hr hb
  go_wp2
  exact bodyPost_ret (v := .agg #[.slice p1 p2 p3, .slice q1 q2 q3]) (by simp [results, Try.results45, go_sem, x0, x1]) rfl ⟨_, rfl, R1.out, (B1.out.setCell (Nat.le_refl _) _).setCell (Nat.le_refl _) _⟩
theorem hroom_any {w : World} {g m : Nat} {A : Nat → Prop} {an : Option Addr} {ln cn : Nat} {ad : Option Addr} {ld cd : Nat} {N D : Int} {hs : List Hd} (h : LH w g m A an ln cn ad ld cd N D hs) (hD : 0 < D) :
    Calls Try.prog 45 #[.pointer (some ⟨g, 0, none⟩)] w (GivesQ w 3 N D) := by
  have H := Lib.hid h
  have X0 := Lib.hid (Box.new w 27 (.slice none 0 0) (.slice none 0 0))
  have B0 := Lib.hid (wbox w (.cells #[.slice none 0 0, .slice none 0 0] 27))
  have H1 := Lib.hid (H.out.below B0.out)
  have c0 := H1.out.blk.cell 0
  have c1 := H1.out.blk.cell 1
  simp at c0 c1
  go_enter Try.func45, Try.ntmps45
  go_wp2_with fail
  refine (qcheck_yes _ N D 3 0 _ H1.out.ratio hD).mono ?_
  rintro e w1 ⟨rfl, hb⟩
  have X1 := Lib.hid (X0.out.below hb)
  have B1 := Lib.hid (below_next B0.out hb)
  have H2 := Lib.hid (H1.out.below hb)
  have R1 := Lib.hid (box_set X1.out H2.out.ratio).2
  have c0 := H2.out.blk.cell 0
  have c1 := H2.out.blk.cell 1
  simp at c0 c1
  have x0 := X1.out.c0; have x1 := X1.out.c1
  have f0 : w1.frozen? ⟨w.heap.size, 0, none⟩ = false := block_free X1.out
  have f1 : w1.frozen? ⟨w.heap.size, 1, none⟩ = false := block_free X1.out
  clear hb
  go_wp2
  exact bodyPost_ret (v := .agg #[.slice an ln cn, .slice ad ld cd]) (by simp [results, Try.results45, go_sem, x0, x1]) rfl ⟨_, rfl, R1.out, (B1.out.setCell (Nat.le_refl _) _).setCell (Nat.le_refl _) _⟩
instance (E P : Int) : Decidable (MayBe E P) := inferInstanceAs (Decidable (1 ≤ E ∧ E ≤ P ∧ P ≤ 1048576))
/-- how much a weight counts -/
def cntV (E P : Int) : Int × Int := if MayBe E P then (E, P) else (0, 1)
theorem cnt_frac (E P : Int) : 0 ≤ (cntV E P).1 ∧ 0 < (cntV E P).2 := by
  unfold cntV
  split
  · rename_i h; obtain ⟨h1, h2, _⟩ := h; exact ⟨by show 0 ≤ E; omega, by show 0 < P; omega⟩
  · exact ⟨by decide, by decide⟩
theorem hcounts_any (E P : Int) (w : World) : Calls Try.prog 43 #[.agg #[.int .i64 E, .int .i64 P]] w (GivesQ w 2 (cntV E P).1 (cntV E P).2) := by
  obtain ⟨W0, hW0⟩ : ∃ W0, (w.alloc (.cells #[.int .i64 E, .int .i64 P] 39)).alloc (.cells #[.slice none 0 0, .slice none 0 0] 27) = W0 := ⟨_, rfl⟩
  have B0 := Lib.hid (show Below w.heap.size w W0 by rw [← hW0]; exact wbox2 _ _ _)
  have K := Lib.hid (show Blk W0 39 w.heap.size #[.int .i64 E, .int .i64 P] by rw [← hW0]; exact (Blk.new w _ _).alloc _)
  have X0 := Lib.hid (show Box W0 27 (w.heap.size + 1) (.slice none 0 0) (.slice none 0 0) by rw [← hW0]; exact Blk.new2 w _ _ _)
  have k0 := K.out.cell 0; have k1 := K.out.cell 1
  simp at k0 k1
  go_enter Try.func43, Try.ntmps43
  go_wp2_with fail
  by_cases hM : MayBe E P
  · refine (wcheck_yes E P _ hM).mono ?_
    rintro e w1 ⟨rfl, hb⟩
    have X1 := Lib.hid (X0.out.below hb)
    have B1 := Lib.hid (below_next B0.out hb)
    have K := Lib.hid (K.out.below hb)
    have HM := Lib.hid hM
    have k0 := K.out.cell 0; have k1 := K.out.cell 1
    simp at k0 k1
    clear hb hM
    go_wp2_with fail
    refine (qof_any E P w1 (by have := HM.out.1; omega) (by have := HM.out.2.1; have := HM.out.2.2; omega) (by have := HM.out.1; have := HM.out.2.1; omega) (by have := HM.out.2.2; omega)).mono ?_
    rintro e w2 ⟨_, rfl, hr, hb⟩
    obtain ⟨p1, p2, p3, z1, q1, q2, q3, z2, rfl, _⟩ := id hr
    have X2 := Lib.hid (X1.out.below hb)
    have B2 := Lib.hid (below_next B1.out hb)
    have R1 := Lib.hid (box_set X2.out hr).2
    have x0 := X2.out.c0; have x1 := X2.out.c1
    have f0 : w2.frozen? ⟨w.heap.size + 1, 0, none⟩ = false := block_free X2.out
    have f1 : w2.frozen? ⟨w.heap.size + 1, 1, none⟩ = false := block_free X2.out
    clear hr hb k0 k1
    go_wp2
    exact bodyPost_ret (v := .agg #[.slice p1 p2 p3, .slice q1 q2 q3]) (by simp [results, Try.results43, go_sem, x0, x1]) rfl ⟨_, rfl, by rw [show cntV E P = (E, P) from if_pos HM.out]; exact R1.out.mono (Nat.le_refl _) (by omega), (B2.out.setCell (Nat.le_succ _) _).setCell (Nat.le_succ _) _⟩
  · refine (wcheck_any E P _ false ⟨fun h => (by cases h), fun h => absurd h hM⟩).mono ?_
    rintro e w1 ⟨rfl, hb⟩
    have X1 := Lib.hid (X0.out.below hb)
    have B1 := Lib.hid (below_next B0.out hb)
    have HM := Lib.hid hM
    clear hb hM k0 k1
    go_wp2_with fail
    refine (whole_any 0 _ (by omega) (by omega)).mono ?_
    rintro e w2 ⟨_, rfl, hr, hb⟩
    obtain ⟨p1, p2, p3, z1, q1, q2, q3, z2, rfl, _⟩ := id hr
    have X2 := Lib.hid (X1.out.below hb)
    have B2 := Lib.hid (below_next B1.out hb)
    have R1 := Lib.hid (box_set X2.out hr).2
    have x0 := X2.out.c0; have x1 := X2.out.c1
    have f0 : w2.frozen? ⟨w.heap.size + 1, 0, none⟩ = false := block_free X2.out
    have f1 : w2.frozen? ⟨w.heap.size + 1, 1, none⟩ = false := block_free X2.out
    clear hr hb
    go_wp2
    exact bodyPost_ret (v := .agg #[.slice p1 p2 p3, .slice q1 q2 q3]) (by simp [results, Try.results43, go_sem, x0, x1]) rfl ⟨_, rfl, by rw [show cntV E P = (0, 1) from if_neg HM.out]; exact R1.out, (B2.out.setCell (Nat.le_succ _) _).setCell (Nat.le_succ _) _⟩
end Go.Proofs.Ytphlkpkbdnddlaa

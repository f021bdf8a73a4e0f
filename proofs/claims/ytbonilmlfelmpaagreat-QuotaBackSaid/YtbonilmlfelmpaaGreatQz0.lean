/-
  Package hold's ledger as landed, once more: what a call leaves lies where it lay.
-/
import Derived.Test.YtbonilmlfelmpaaGreatHz12
import Derived.Test.YtbonilmlfelmpaaGreatQaA
namespace Go.Proofs.YtbonilmlfelmpaaGreat
open Go.RowKit

/-- the ledger as it is behind a call: in its own blocks, all else as it was -/
def StayF (w : World) (g : Nat) (F A : Nat → Prop) (N D : Int) (hs : List Hd) (w' : World) : Prop := HpL w' g F A N D hs ∧ Keeps F w w'
theorem HpL.stayF {w w' : World} {g : Nat} {F A : Nat → Prop} {N D : Int} {hs : List Hd} (h : HpL w g F A N D hs) (hb : Below w.heap.size w w') : StayF w g F A N D hs w' := by
  obtain ⟨m, an, ln, cn, ad, ld, cd, h1, h2, h3, h4⟩ := h
  exact ⟨⟨m, an, ln, cn, ad, ld, cd, h1.below hb, h2, h3, h4⟩, Keeps.of hb⟩
theorem HpL.movedF {w w' : World} {g m : Nat} {F A : Nat → Prop} {an : Option Addr} {ln cn : Nat} {ad : Option Addr} {ld cd : Nat} {N D : Int} {hs : List Hd} (hF : ∀ k, F k ↔ k = g ∨ k = m) (hA : ∀ k, A k → k ≠ m) (g' : GoodL N D hs) (h : StayL w g m A an ln cn ad ld cd N D hs w') : StayF w g F A N D hs w' := by
  obtain ⟨h1, h2⟩ := h
  exact ⟨⟨m, an, ln, cn, ad, ld, cd, h1, g', hA, hF⟩, ⟨h2.os, h2.tape, h2.output, h2.size, fun k hk hn => h2.block k hk (fun e => hn ((hF k).mpr (.inr e)))⟩⟩
theorem HpL.lies {w : World} {g : Nat} {F A : Nat → Prop} {N D : Int} {hs : List Hd} (h : HpL w g F A N D hs) : Lies F w ∧ Lies A w := by
  obtain ⟨m, an, ln, cn, ad, ld, cd, h1, h2, h3, h4⟩ := h
  refine ⟨fun k hk => ?_, h1.lies⟩
  rcases (h4 k).mp hk with rfl | rfl
  · exact h1.blk.lt
  · exact h1.map.lt
theorem HpL.keeps {w w' : World} {g : Nat} {F A G : Nat → Prop} {N D : Int} {hs : List Hd} (h : HpL w g F A N D hs) (k : Keeps G w w') (hF : Apart F G) (hA : Apart A G) : HpL w' g F A N D hs := by
  obtain ⟨m, an, ln, cn, ad, ld, cd, h1, h2, h3, h4⟩ := h
  exact ⟨m, an, ln, cn, ad, ld, cd, h1.keeps k (hF g ((h4 g).mpr (.inl rfl))) hA (h1.map.keeps k (hF m ((h4 m).mpr (.inr rfl)))), h2, h3, h4⟩
theorem HpL.good {w : World} {g : Nat} {F A : Nat → Prop} {N D : Int} {hs : List Hd} (h : HpL w g F A N D hs) : GoodL N D hs := by obtain ⟨m, an, ln, cn, ad, ld, cd, h1, h2, h3, h4⟩ := h; exact h2
theorem HpL.nonum {w : World} {g : Nat} {F A : Nat → Prop} {N D : Int} {hs : List Hd} (h : HpL w g F A N D hs) : NoNum w F := by
  obtain ⟨m, an, ln, cn, ad, ld, cd, h1, h2, h3, h4⟩ := h
  intro k hk j x hc
  rcases (h4 k).mp hk with rfl | rfl
  · rw [h1.blk.cell j] at hc
    match j with
    | 0 => simp at hc
    | 1 => simp at hc
    | 2 => simp at hc
    | j + 3 => simp at hc
  · exact h1.map.nocell j _ hc
theorem fnew_yes (v : Value) (N D : Int) (L b : Nat) (w : World) (hv : Rat w b L v N D) (hL : L ≤ 3) (hD : 0 < D) : Calls Tryz.prog 32 #[v] w fun z w' => ∃ g F A, z = .returned (.pointer (some ⟨g, 0, none⟩)) ∧ HpL w' g F A N D [] ∧ From F w.heap.size ∧ From A w.heap.size ∧ Below w.heap.size w w' := by
  have hn : 0 ≤ N := by
    obtain ⟨a1, l1, c1, z1, a2, l2, c2, z2, rfl, r1, i1, _⟩ := hv
    exact Is.nonneg (by omega) i1
  refine (hnew_yes v N D L b w hv hL hD).mono ?_
  rintro z w' ⟨g, m, A, an, ln, cn, ad, ld, cd, rfl, h1, h2, h3, h4, h5, h6⟩
  refine ⟨g, (fun k => k = g ∨ k = m), A, rfl, ⟨m, an, ln, cn, ad, ld, cd, h1, GoodL.nil hn hD, h2, fun _ => Iff.rfl⟩, ?_, h3, h6⟩
  rintro k (rfl | rfl)
  · exact h4
  · exact h5
theorem fjoin (g : Nat) (F A : Nat → Prop) (N D : Int) (hs : List Hd) (id E P : Int) (w : World) (h : HpL w g F A N D hs) (hl : hs.length ≤ 19) : Calls Tryz.prog 52 #[.pointer (some ⟨g, 0, none⟩), .int .i64 id, .agg #[.int .i64 E, .int .i64 P]] w fun z w' => z = .returned (.int .i64 (joinV N D hs id E P).1) ∧ StayF w g F A N D (joinV N D hs id E P).2 w' := by
  obtain ⟨m, an, ln, cn, ad, ld, cd, h1, h2, h3, h4⟩ := (_root_.id h : HpL w g F A N D hs)
  have hg := h2.join id E P
  unfold joinV at hg ⊢
  rcases may_dec E P with hM | hM
  · simp only [mayB_yes hM] at hg ⊢
    cases hf : findH hs id with
    | some j =>
      obtain ⟨x, hj, hx⟩ := findH_some hf
      exact (hjoin_there id E P j x h1 hM hf hj).mono fun _ _ ⟨a, b⟩ => ⟨a, h.stayF b⟩
    | none =>
      simp only [hf] at hg ⊢
      cases hq : fitH N D (hs ++ [newH id E P]) with
      | false => exact (hjoin_no id E P h1 h2 hl hM hf hq).mono fun _ _ ⟨a, b⟩ => ⟨a, h.stayF b⟩
      | true =>
        simp only [hq] at hg ⊢
        exact (hjoin_yes id E P h1 h3 h2 hl hM hf hq).mono fun _ _ ⟨a, b⟩ => ⟨a, HpL.movedF h4 h3 hg b⟩
  · rw [if_pos (mayB_no hM)]
    exact (hjoin_arg g id E P w hM).mono fun _ _ ⟨a, b⟩ => ⟨a, h.stayF b⟩
theorem fask (g : Nat) (F A : Nat → Prop) (N D : Int) (hs : List Hd) (id E P : Int) (w : World) (h : HpL w g F A N D hs) (hl : hs.length ≤ 19) : Calls Tryz.prog 41 #[.pointer (some ⟨g, 0, none⟩), .int .i64 id, .agg #[.int .i64 E, .int .i64 P]] w fun z w' => z = .returned (.int .i64 (askV N D hs id E P).1) ∧ StayF w g F A N D (askV N D hs id E P).2 w' := by
  obtain ⟨m, an, ln, cn, ad, ld, cd, h1, h2, h3, h4⟩ := (_root_.id h : HpL w g F A N D hs)
  have hg := h2.ask id E P
  unfold askV at hg ⊢
  rcases may_dec E P with hM | hM
  · simp only [mayB_yes hM] at hg ⊢
    cases hf : findH hs id with
    | none => exact (hask_err w (some ⟨g, 0, none⟩) id E P 12 hM (.inr rfl) (finds_none id h1 hf)).mono fun _ _ ⟨a, b⟩ => ⟨a, h.stayF b⟩
    | some j =>
      obtain ⟨x, hj, hx⟩ := findH_some hf
      simp only [hf, hj] at hg ⊢
      cases ha : x.asked with
      | true => exact (hask_state id E P j x h1 hM hf hj (askB_some h2 hj ha)).mono fun _ _ ⟨a, b⟩ => ⟨a, h.stayF b⟩
      | false =>
        simp only [ha] at hg ⊢
        cases hq : fitH N D (hs.set j (askH x E P)) with
        | false => exact (hask_no id E P j x h1 h2 hl hM hf hj (askB_some h2 hj ha) hq).mono fun _ _ ⟨a, b⟩ => ⟨a, h.stayF b⟩
        | true =>
          simp only [hq] at hg ⊢
          exact (hask_yes id E P j x h1 h3 h2 hl hM hf hj (askB_some h2 hj ha) hq).mono fun _ _ ⟨a, b⟩ => ⟨a, HpL.movedF h4 h3 hg b⟩
  · rw [if_pos (mayB_no hM)]
    exact (hask_arg (some ⟨g, 0, none⟩) id E P w hM).mono fun _ _ ⟨a, b⟩ => ⟨a, h.stayF b⟩
theorem fsettle (g : Nat) (F A : Nat → Prop) (N D : Int) (hs : List Hd) (id : Int) (w : World) (h : HpL w g F A N D hs) : Calls Tryz.prog 45 #[.pointer (some ⟨g, 0, none⟩), .int .i64 id] w fun z w' => z = .returned (.int .i64 (settleV hs id).1) ∧ StayF w g F A N D (settleV hs id).2 w' := by
  obtain ⟨m, an, ln, cn, ad, ld, cd, h1, h2, h3, h4⟩ := (_root_.id h : HpL w g F A N D hs)
  have hg := h2.settle id
  unfold settleV at hg ⊢
  cases hf : findH hs id with
  | none => exact (hsettle_err w (some ⟨g, 0, none⟩) id 12 (.inr rfl) (finds_none id h1 hf)).mono fun _ _ ⟨a, b⟩ => ⟨a, h.stayF b⟩
  | some j =>
    obtain ⟨x, hj, hx⟩ := findH_some hf
    simp only [hf, hj] at hg ⊢
    cases ha : x.asked with
    | false => exact (hsettle_state id j x h1 hf hj (askB_some h2 hj ha)).mono fun _ _ ⟨a, b⟩ => ⟨a, h.stayF b⟩
    | true =>
      simp only [ha] at hg ⊢
      exact (hsettle_yes id j x h1 h3 hf hj (askB_some h2 hj ha)).mono fun _ _ ⟨a, b⟩ => ⟨a, HpL.movedF h4 h3 hg b⟩
theorem ffree (g : Nat) (F A : Nat → Prop) (N D : Int) (hs : List Hd) (id : Int) (w : World) (h : HpL w g F A N D hs) : Calls Tryz.prog 47 #[.pointer (some ⟨g, 0, none⟩), .int .i64 id] w fun z w' => z = .returned (.int .i64 (freeV hs id).1) ∧ StayF w g F A N D (freeV hs id).2 w' := by
  obtain ⟨m, an, ln, cn, ad, ld, cd, h1, h2, h3, h4⟩ := (_root_.id h : HpL w g F A N D hs)
  have hg := h2.free id
  unfold freeV at hg ⊢
  cases hf : findH hs id with
  | none => exact (hfree_err w (some ⟨g, 0, none⟩) id 12 (.inr rfl) (finds_none id h1 hf)).mono fun _ _ ⟨a, b⟩ => ⟨a, h.stayF b⟩
  | some j =>
    obtain ⟨x, hj, hx⟩ := findH_some hf
    simp only [hf] at hg ⊢
    exact (hfree_yes id j x h1 h3 hf hj).mono fun _ _ ⟨a, b⟩ => ⟨a, HpL.movedF h4 h3 hg b⟩
theorem fheld (g : Nat) (F A : Nat → Prop) (N D : Int) (hs : List Hd) (w : World) (h : HpL w g F A N D hs) (hl : hs.length ≤ 20) : Calls Tryz.prog 56 #[.pointer (some ⟨g, 0, none⟩)] w (GivesLo w HL (sumH hs).1 (sumH hs).2) := by
  obtain ⟨m, an, ln, cn, ad, ld, cd, h1, h2, h3, h4⟩ := h
  exact (hheld43 h1 h2 (by omega)).mono fun _ _ q => q.more (by unfold HL; omega)
theorem fof (g : Nat) (F A : Nat → Prop) (N D : Int) (hs : List Hd) (id : Int) (w : World) (h : HpL w g F A N D hs) : Calls Tryz.prog 37 #[.pointer (some ⟨g, 0, none⟩), .int .i64 id] w (fun z w' => z = .returned (.tuple #[.agg #[.int .i64 (ofH hs id).1.1, .int .i64 (ofH hs id).1.2], .agg #[.int .i64 (ofH hs id).2.1.1, .int .i64 (ofH hs id).2.1.2], .bool (ofH hs id).2.2]) ∧ Below w.heap.size w w') := by
  obtain ⟨m, an, ln, cn, ad, ld, cd, h1, h2, h3, h4⟩ := h
  unfold ofH
  cases hf : findH hs id with
  | none => exact hof_with w (some ⟨g, 0, none⟩) id 0 0 0 0 12 (finds_none id h1 hf) false rfl
  | some j =>
    obtain ⟨x, hj, hx⟩ := findH_some hf
    simp only [hj]
    exact hof_with w (some ⟨g, 0, none⟩) id x.E x.P x.NE x.NP 0 (finds_some id h1 hf hj) true rfl
theorem ffits (g : Nat) (F A : Nat → Prop) (N D : Int) (hs : List Hd) (E P E2 P2 : Int) (w : World) (h : HpL w g F A N D hs) (hl : hs.length ≤ 20) : Calls Tryz.prog 67 #[.pointer (some ⟨g, 0, none⟩), .agg #[.int .i64 E, .int .i64 P], .agg #[.int .i64 E2, .int .i64 P2]] w (fun z w' => z = .returned (.bool (fitsV N D hs E P E2 P2)) ∧ Below w.heap.size w w') := by
  obtain ⟨m, an, ln, cn, ad, ld, cd, h1, h2, h3, h4⟩ := h
  rcases may_dec E P with hM | hM
  · exact hfits_yes h1 h2 E P E2 P2 hM hl _ rfl
  · rw [fitsV_no hM]
    exact hfits_arg g E P E2 P2 w hM
end Go.Proofs.YtbonilmlfelmpaaGreat

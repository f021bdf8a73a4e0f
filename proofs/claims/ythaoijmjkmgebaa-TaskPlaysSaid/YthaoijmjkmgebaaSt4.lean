/-
  What package stepper's own nothing and sub give back: contracts.
-/
import Derived.Test.YthaoijmjkmgebaaSt3
namespace Go.Proofs.Ythaoijmjkmgebaa
open Go.RowKit

/-- the cells of a stepper -/
def spC (a r s m b ga gr gs gm gb n O : Int) : Array Value := #[.int .i64 a, .int .i64 r, .int .i64 s, .int .i64 m, .int .i64 b, .int .i64 ga, .int .i64 gr, .int .i64 gs, .int .i64 gm, .int .i64 gb, .int .i64 n, .int .i64 O]
theorem Blk.spTold {W : World} {T : TypeId} {g : Nat} {a r s m b ga gr gs gm gb n O : Int} (h : Blk W T g (spC a r s m b ga gr gs gm gb n O)) (x : Int) : Blk (W.setCell ⟨g, 10, none⟩ (.int .i64 x)) T g (spC a r s m b ga gr gs gm gb x O) := h.set 10 _
theorem Blk.spOff {W : World} {T : TypeId} {g : Nat} {a r s m b ga gr gs gm gb n O : Int} (h : Blk W T g (spC a r s m b ga gr gs gm gb n O)) (x : Int) : Blk (W.setCell ⟨g, 11, none⟩ (.int .i64 x)) T g (spC a r s m b ga gr gs gm gb n x) := h.set 11 _
theorem Blk.spWin {W : World} {T : TypeId} {g : Nat} {a r s m b ga gr gs gm gb n O : Int} (h : Blk W T g (spC a r s m b ga gr gs gm gb n O)) (u v x y z : Int) :
    Blk (((((W.setCell ⟨g, 0, none⟩ (.int .i64 u)).setCell ⟨g, 1, none⟩ (.int .i64 v)).setCell ⟨g, 2, none⟩ (.int .i64 x)).setCell ⟨g, 3, none⟩ (.int .i64 y)).setCell ⟨g, 4, none⟩ (.int .i64 z)) T g (spC u v x y z ga gr gs gm gb n O) :=
  ((((h.set 0 _).set 1 _).set 2 _).set 3 _).set 4 _
theorem Blk.spGrp {W : World} {T : TypeId} {g : Nat} {a r s m b ga gr gs gm gb n O : Int} (h : Blk W T g (spC a r s m b ga gr gs gm gb n O)) (u v x y z : Int) :
    Blk (((((W.setCell ⟨g, 5, none⟩ (.int .i64 u)).setCell ⟨g, 6, none⟩ (.int .i64 v)).setCell ⟨g, 7, none⟩ (.int .i64 x)).setCell ⟨g, 8, none⟩ (.int .i64 y)).setCell ⟨g, 9, none⟩ (.int .i64 z)) T g (spC a r s m b u v x y z n O) :=
  ((((h.set 5 _).set 6 _).set 7 _).set 8 _).set 9 _

theorem snothing_nil (w : World) : Calls Try.prog 50 #[.pointer none] w fun e w' => e = .returned (.bool true) ∧ w = w' := by
  go_enter Try.func50, Try.ntmps50
  go_wp2
  go_ret
  exact ⟨rfl, rfl⟩
theorem snothing_zero (g : Nat) (w : World) (h : Blk w 74 g (spC 0 0 0 0 0 0 0 0 0 0 0 0)) : Calls Try.prog 50 #[.pointer (some ⟨g, 0, none⟩)] w fun e w' => e = .returned (.bool true) ∧ w = w' := by
  have c0 := h.cell 0; have c1 := h.cell 1; have c2 := h.cell 2; have c3 := h.cell 3; have c4 := h.cell 4
  simp [spC] at c0 c1 c2 c3 c4
  clear h
  go_enter Try.func50, Try.ntmps50
  go_wp2
  go_ret
  exact ⟨rfl, rfl⟩
theorem snothing_no (a r s m b ga gr gs gm gb n O : Int) (g : Nat) (w : World) (h : Blk w 74 g (spC a r s m b ga gr gs gm gb n O)) (hb : 0 < b) : Calls Try.prog 50 #[.pointer (some ⟨g, 0, none⟩)] w fun e w' => e = .returned (.bool false) ∧ w = w' := by
  have c0 := h.cell 0; have c1 := h.cell 1; have c2 := h.cell 2; have c3 := h.cell 3; have c4 := h.cell 4
  simp [spC] at c0 c1 c2 c3 c4
  clear h
  have hne := ctr_eq a r s m b (by omega)
  go_enter Try.func50, Try.ntmps50
  go_wp2
  go_ret
  exact ⟨rfl, rfl⟩

set_option maxHeartbeats 4000000 in
theorem ssub_any (rel a r s m b ga gr gs gm gb n O t gt G' : Int) (g : Nat) (w : World) (h : Blk w 74 g (spC a r s m b ga gr gs gm gb n O))
    (l0 : 0 ≤ rel) (l1 : rel ≤ 2305843009213693952) (a0 : 0 ≤ a) (a1 : a ≤ 2305843009213693952) (O0 : 0 ≤ O) (O1 : O ≤ 2305843009213693952) (ht : t = if 0 < r then 1 else 0) (ga0 : 0 ≤ ga) (ga1 : ga ≤ 2305843009213693952) (hgt : gt = if 0 < gr then 1 else 0)
    (hG : (ga = 0 ∧ gr = 0 ∧ gs = 0 ∧ gm = 0 ∧ gb = 0 ∧ G' = 0) ∨ (0 < gb ∧ G' = ga + gt + O)) :
    Calls Try.prog 54 #[.pointer (some ⟨g, 0, none⟩), .int .i64 rel] w fun e w' => e = .returned (subV n (rel + O) (a + t + O) t G') ∧ Below w.heap.size w w' := by
  have t0 : 0 ≤ t ∧ t ≤ 1 := by rw [ht]; split <;> omega
  have g0 : 0 ≤ gt ∧ gt ≤ 1 := by rw [hgt]; split <;> omega
  obtain ⟨t0, t1⟩ := t0
  obtain ⟨g0, g1⟩ := g0
  have HT := Lib.hid ht; have HGT := Lib.hid hgt; have HG := Lib.hid hG
  clear ht hgt hG
  have H := Lib.hid h
  have K := Lib.hid (h.alloc (Obj.cells #[.int .i64 0, .int .i64 0, .int .i64 0, .int .i64 0, .int .i64 0] 35))
  have L := Lib.hid (Blk.new w 35 #[.int .i64 0, .int .i64 0, .int .i64 0, .int .i64 0, .int .i64 0])
  clear h
  have w1 : IntKind.i64.wrap (rel + O) = rel + O := IntWalk.i64_in _ (by omega)
  have w2 : IntKind.i64.wrap (a + t + O) = a + t + O := IntWalk.i64_in _ (by omega)
  go_enter Try.func54, Try.ntmps54
  go_upto_region 1 with fail
  obtain ⟨W0, hW0⟩ : ∃ W0, w.alloc (Obj.cells #[.int .i64 0, .int .i64 0, .int .i64 0, .int .i64 0, .int .i64 0] 35) = W0 := ⟨_, rfl⟩
  have B := Lib.hid (show Below w.heap.size w W0 by rw [← hW0]; exact wbox _ _)
  rw [hW0] at K L
  rw [hW0]
  clear hW0
  have KEPT := Lib.hid (show ∀ w' : World, Below W0.heap.size W0 w' → w'.cell? ⟨g, 0, none⟩ = some (.int .i64 a) ∧ w'.cell? ⟨g, 1, none⟩ = some (.int .i64 r) ∧ w'.cell? ⟨g, 2, none⟩ = some (.int .i64 s) ∧ w'.cell? ⟨g, 3, none⟩ = some (.int .i64 m) ∧ w'.cell? ⟨g, 4, none⟩ = some (.int .i64 b) ∧ w'.cell? ⟨g, 10, none⟩ = some (.int .i64 n) ∧ w'.cell? ⟨g, 11, none⟩ = some (.int .i64 O) from fun w' h => ⟨(K.out.below h).cell 0, (K.out.below h).cell 1, (K.out.below h).cell 2, (K.out.below h).cell 3, (K.out.below h).cell 4, (K.out.below h).cell 10, (K.out.below h).cell 11⟩)
  have BB := Lib.hid (show Below W0.heap.size W0 W0.drew from (Below.refl W0.heap.size W0).drew)
  go_cut [5] (fun s5 wx => PkBox w (.int .i64 n) (.int .i64 (rel + O)) (.int .i64 (a + t + O)) (.int .i64 t) (.int .i64 0) s5 wx)
  case first =>
    go_region_held3 (fun w' => w'.cell? ⟨g, 0, none⟩ = some (.int .i64 a) ∧ w'.cell? ⟨g, 1, none⟩ = some (.int .i64 r) ∧ w'.cell? ⟨g, 2, none⟩ = some (.int .i64 s) ∧ w'.cell? ⟨g, 3, none⟩ = some (.int .i64 m) ∧ w'.cell? ⟨g, 4, none⟩ = some (.int .i64 b) ∧ w'.cell? ⟨g, 10, none⟩ = some (.int .i64 n) ∧ w'.cell? ⟨g, 11, none⟩ = some (.int .i64 O))
      (((with_reducible refine KEPT.out _ ?_); first | with_reducible exact below_set5 BB.out AG.out | with_reducible exact BB.out | with_reducible exact (wbox _ _).drew | with_reducible exact below_next BB.out (wbox _ _)))
      (first
        | (go_at_call 53; (with_reducible refine (cup_any a r s m b t _ HT.out a0 (by omega)).mono ?_); rintro e w1 ⟨rfl, hb⟩; (first | (with_reducible have BB := Lib.hid (below_next BB.out hb); (try have A := Lib.hid (A.out.below hb))) | (have AG := Lib.hid (Nat.le_refl W0.heap.size); have A := Lib.hid ((Blk.new W0 35 #[.int .i64 0, .int .i64 0, .int .i64 0, .int .i64 0, .int .i64 0]).drew.below hb); have BB := Lib.hid (below_next (wbox W0 (Obj.cells #[.int .i64 0, .int .i64 0, .int .i64 0, .int .i64 0, .int .i64 0] 35)).drew hb)) | (with_reducible have AG := Lib.hid BB.out.size; with_reducible have A := Lib.hid ((Blk.new _ 35 #[.int .i64 0, .int .i64 0, .int .i64 0, .int .i64 0, .int .i64 0]).below hb); with_reducible have BB := Lib.hid (below_next (below_next BB.out (wbox _ _)) hb))); clear hb)
        | (go_at_call 56; (with_reducible refine (cbit_any a r s m b t _ HT.out).mono ?_); rintro e w2 ⟨rfl, hb⟩; (first | (with_reducible have BB := Lib.hid (below_next BB.out hb); (try have A := Lib.hid (A.out.below hb))) | (have AG := Lib.hid (Nat.le_refl W0.heap.size); have A := Lib.hid ((Blk.new W0 35 #[.int .i64 0, .int .i64 0, .int .i64 0, .int .i64 0, .int .i64 0]).drew.below hb); have BB := Lib.hid (below_next (wbox W0 (Obj.cells #[.int .i64 0, .int .i64 0, .int .i64 0, .int .i64 0, .int .i64 0] 35)).drew hb)) | (with_reducible have AG := Lib.hid BB.out.size; with_reducible have A := Lib.hid ((Blk.new _ 35 #[.int .i64 0, .int .i64 0, .int .i64 0, .int .i64 0, .int .i64 0]).below hb); with_reducible have BB := Lib.hid (below_next (below_next BB.out (wbox _ _)) hb))); (try (have s0 := A.out.cell 0; have s1 := A.out.cell 1; have s2 := A.out.cell 2; have s3 := A.out.cell 3; have s4 := A.out.cell 4; have f0 := A.out.free 0; have f1 := A.out.free 1; have f2 := A.out.free 2; have f3 := A.out.free 3; have f4 := A.out.free 4; simp at s0 s1 s2 s3 s4)); clear hb))
    all_goals
      go_wp2_with fail
      go_meet
      first
        | with_reducible exact pkbox_set B.out L.out BB.out A.out AG.out
        | with_reducible exact pkbox_new B.out L.out BB.out
  case rest =>
    obtain ⟨k, rfl, hb1, hlt, hb2, hbel⟩ := hcut
    have H1 := Lib.hid hb1; have H2 := Lib.hid hb2; have HB := Lib.hid hbel; have HL := Lib.hid hlt
    have HN := Lib.hid (show g ≠ k from Nat.ne_of_lt (Nat.lt_trans H.out.lt hlt))
    have H := Lib.hid (H.out.below hbel)
    clear hb1 hb2 hbel hlt KEPT BB K L B
    have n1 : ¬ k = w.heap.size := by have := HL.out; omega
    have n2 : ¬ w.heap.size = k := by have := HL.out; omega
    have e5 := H.out.cell 5; have e6 := H.out.cell 6; have e7 := H.out.cell 7; have e8 := H.out.cell 8; have e9 := H.out.cell 9
    simp [spC] at e5 e6 e7 e8 e9
    have c0 := H1.out.cell 0; have c1 := H1.out.cell 1; have c2 := H1.out.cell 2; have c3 := H1.out.cell 3; have c4 := H1.out.cell 4
    have s0 := H2.out.cell 0; have s1 := H2.out.cell 1; have s2 := H2.out.cell 2; have s3 := H2.out.cell 3; have s4 := H2.out.cell 4
    have f0 := H2.out.free 0; have f1 := H2.out.free 1; have f2 := H2.out.free 2; have f3 := H2.out.free 3; have f4 := H2.out.free 4
    simp at c0 c1 c2 c3 c4 s0 s1 s2 s3 s4
    rcases HG.out with ⟨rfl, rfl, rfl, rfl, rfl, rfl⟩ | ⟨hgb, hG'⟩
    · clear HG HGT HT
      go_wp2
      exact bodyPost_ret (v := subV n (rel + O) (a + t + O) t 0) (by simp [subV, results, Try.results54, go_sem, s0, s1, s2, s3, s4]) rfl ⟨rfl, below_set5 HB.out (Nat.le_refl _)⟩
    · have hne := ctr_ne ga gr gs gm gb (by omega)
      have HG' := Lib.hid hG'
      have w3 : IntKind.i64.wrap (ga + gt + O) = ga + gt + O := IntWalk.i64_in _ (by omega)
      clear HG hG'
      go_upto_region 3 with fail
      clear c0 c1 c2 c3 c4 s0 s1 s2 s3 s4 f0 f1 f2 f3 f4 e5 e6 e7 e8 e9
      have KEPT := Lib.hid (show ∀ w' : World, Below wc.heap.size wc w' → w'.cell? ⟨g, 5, none⟩ = some (.int .i64 ga) ∧ w'.cell? ⟨g, 6, none⟩ = some (.int .i64 gr) ∧ w'.cell? ⟨g, 7, none⟩ = some (.int .i64 gs) ∧ w'.cell? ⟨g, 8, none⟩ = some (.int .i64 gm) ∧ w'.cell? ⟨g, 9, none⟩ = some (.int .i64 gb) ∧ w'.cell? ⟨g, 11, none⟩ = some (.int .i64 O) from fun w' h => ⟨(H.out.below h).cell 5, (H.out.below h).cell 6, (H.out.below h).cell 7, (H.out.below h).cell 8, (H.out.below h).cell 9, (H.out.below h).cell 11⟩)
      have KEPT2 := Lib.hid (show ∀ (w' : World) (v : Value), Below wc.heap.size wc w' → (w'.setCell ⟨k, 4, none⟩ v).cell? ⟨g, 5, none⟩ = some (.int .i64 ga) ∧ (w'.setCell ⟨k, 4, none⟩ v).cell? ⟨g, 6, none⟩ = some (.int .i64 gr) ∧ (w'.setCell ⟨k, 4, none⟩ v).cell? ⟨g, 7, none⟩ = some (.int .i64 gs) ∧ (w'.setCell ⟨k, 4, none⟩ v).cell? ⟨g, 8, none⟩ = some (.int .i64 gm) ∧ (w'.setCell ⟨k, 4, none⟩ v).cell? ⟨g, 9, none⟩ = some (.int .i64 gb) ∧ (w'.setCell ⟨k, 4, none⟩ v).cell? ⟨g, 11, none⟩ = some (.int .i64 O) from fun w' v h => ⟨((H.out.below h).other ⟨k, 4, none⟩ v HN.out).cell 5, ((H.out.below h).other ⟨k, 4, none⟩ v HN.out).cell 6, ((H.out.below h).other ⟨k, 4, none⟩ v HN.out).cell 7, ((H.out.below h).other ⟨k, 4, none⟩ v HN.out).cell 8, ((H.out.below h).other ⟨k, 4, none⟩ v HN.out).cell 9, ((H.out.below h).other ⟨k, 4, none⟩ v HN.out).cell 11⟩)
      have BB := Lib.hid (show Below wc.heap.size wc wc.drew from (Below.refl wc.heap.size wc).drew)
      go_region_held3 (fun w' => w'.cell? ⟨g, 5, none⟩ = some (.int .i64 ga) ∧ w'.cell? ⟨g, 6, none⟩ = some (.int .i64 gr) ∧ w'.cell? ⟨g, 7, none⟩ = some (.int .i64 gs) ∧ w'.cell? ⟨g, 8, none⟩ = some (.int .i64 gm) ∧ w'.cell? ⟨g, 9, none⟩ = some (.int .i64 gb) ∧ w'.cell? ⟨g, 11, none⟩ = some (.int .i64 O))
        (first | with_reducible exact KEPT.out _ BB.out | with_reducible exact KEPT2.out _ _ BB.out)
        (first
          | (go_at_call 53; (with_reducible refine (cup_any ga gr gs gm gb gt _ HGT.out ga0 (by omega)).mono ?_); rintro e w3 ⟨rfl, hb⟩; have BB := Lib.hid (below_next BB.out hb); have A1 := Lib.hid (H1.out.below BB.out); have A2 := Lib.hid (H2.out.below BB.out); have e4 := A1.out.free 4; have c4 := A1.out.cell 4; simp at c4; clear hb))
      all_goals
        have c0 := A1.out.cell 0; have c1 := A1.out.cell 1; have c2 := A1.out.cell 2; have c3 := A1.out.cell 3
        have s0 := A2.out.cell 0; have s1 := A2.out.cell 1; have s2 := A2.out.cell 2; have s3 := A2.out.cell 3; have s4 := A2.out.cell 4
        have f0 := A2.out.free 0; have f1 := A2.out.free 1; have f2 := A2.out.free 2; have f3 := A2.out.free 3; have f4 := A2.out.free 4
        simp at c0 c1 c2 c3 s0 s1 s2 s3 s4
        go_wp2
        exact bodyPost_ret (v := subV n (rel + O) (a + t + O) t (ga + gt + O)) (by simp [subV, results, Try.results54, go_sem, s0, s1, s2, s3, s4]) rfl ⟨by rw [HG'.out], below_set5 ((below_next HB.out BB.out).setCell (Nat.le_of_lt HL.out) _) (Nat.le_refl _)⟩
end Go.Proofs.Ythaoijmjkmgebaa

/-
  Package heap as landed: the heap in memory; New, shut, Len, Min, Get: contracts.
-/
import Derived.Test.YtfeemdljlikpbaaHe8
namespace Go.Proofs.Ytfeemdljlikpbaa
open Go.RowKit Go.Maps
variable {L : FuncId} {TT : TypeId} {ltb : Ev → Ev → Bool}

/-- package heap's heap at block g, in the blocks of F, holds these things -/
def Hp7E (L : FuncId) (TT : TypeId) (ltb : Ev → Ev → Bool) (w : World) (g : Nat) (F : Nat → Prop) (ts : List Te) : Prop := ∃ a cap m xs, HSE L TT w g (.slice a xs.length cap) m xs ∧ HqE ltb xs ∧ xs.Perm ts ∧ (∀ k, F k ↔ HFE g (.slice a xs.length cap) m k)
theorem HSE.keepsV {G : Nat → Prop} {w w' : World} {g : Nat} {v : Value} {m : Nat} {xs : List Te} (h : HSE L TT w g v m xs) (k : Keeps G w w') (hG : ∀ k, HFE g v m k → ¬ G k) : HSE L TT w' g v m xs := by
  obtain ⟨D, hD, hP⟩ := h.map
  exact ⟨h.blk.keeps k (hG _ (.inl rfl)), owns_keeps h.row k (fun x e => hG _ (.inr (.inr e))), ⟨D, hD.keeps k (hG _ (.inr (.inl rfl))), hP⟩, h.ids, h.rng, h.len, h.typ⟩
theorem HSE.below {w w' : World} {g : Nat} {v : Value} {m : Nat} {xs : List Te} (h : HSE L TT w g v m xs) (k : Below w.heap.size w w') : HSE L TT w' g v m xs := h.keepsV (G := fun _ => False) (Keeps.of k) (fun _ _ q => q)
theorem HSE.mlt {w : World} {g : Nat} {v : Value} {m : Nat} {xs : List Te} (h : HSE L TT w g v m xs) : m < w.heap.size := by
  obtain ⟨D, ⟨es, clock, hb, _⟩, _⟩ := h.map
  exact (Array.getElem?_eq_some_iff.1 hb).1
theorem HSE.lies {w : World} {g : Nat} {v : Value} {m : Nat} {xs : List Te} (h : HSE L TT w g v m xs) : Lies (HFE g v m) w := fun k q => by
  rcases q with e | e | e
  · rw [e]; exact h.blk.lt
  · rw [e]; exact h.mlt
  · exact (h.row.lt k e).2
theorem Hp7E.lies {w : World} {g : Nat} {F : Nat → Prop} {ts : List Te} (h : Hp7E L TT ltb w g F ts) : Lies F w := by
  obtain ⟨a, cap, m, xs, hs, _, _, hF⟩ := h
  exact fun k q => hs.lies k ((hF k).mp q)
theorem Hp7E.keeps {w w' : World} {g : Nat} {F G : Nat → Prop} {ts : List Te} (h : Hp7E L TT ltb w g F ts) (k : Keeps G w w') (ap : Apart F G) : Hp7E L TT ltb w' g F ts := by
  obtain ⟨a, cap, m, xs, hs, hq, hp, hF⟩ := h
  exact ⟨a, cap, m, xs, hs.keepsV k (fun x q => ap x ((hF x).mpr q)), hq, hp, hF⟩
theorem Hp7E.own {w : World} {g : Nat} {F : Nat → Prop} {ts : List Te} (h : Hp7E L TT ltb w g F ts) : OwnE ts := by
  obtain ⟨a, cap, m, xs, hs, hq, hp, hF⟩ := h
  exact hs.ids.perm hp
/-- a call on the heap that leaves the things ts -/
def Stay7E (L : FuncId) (TT : TypeId) (ltb : Ev → Ev → Bool) (w : World) (g : Nat) (F : Nat → Prop) (ts : List Te) (w' : World) : Prop := ∃ F', Hp7E L TT ltb w' g F' ts ∧ Moves F F' w w'
theorem Hp7E.stay {w w' : World} {g : Nat} {F : Nat → Prop} {ts : List Te} (h : Hp7E L TT ltb w g F ts) (k : Below w.heap.size w w') : Stay7E L TT ltb w g F ts w' :=
  ⟨F, h.keeps (G := fun _ => False) (Keeps.of k) (fun _ _ q => q), Moves.of k h.lies⟩

theorem plc_nilE : PlcE (.map [] : DataW Unit) [] := ⟨rfl, fun id => by simp [Maps.has_eq], fun i t h => by simp at h⟩
theorem new_hsE (w : World) : HSE L 70 ((w.alloc (.map #[] 0)).alloc (.cells (HVE L (.slice none 0 0) w.heap.size false) 70)) (w.heap.size + 1) (.slice none 0 0) w.heap.size [] :=
  ⟨Blk.byE (wsize _ _), World.ownsRow_nil _ _ _ _, ⟨_, World.ownsMap.alloc (MapPE.of (World.ownsMap_made w Try.prog 3 _)) _, plc_nilE⟩, List.Pairwise.nil, (fun _ h => by cases h), by decide, by decide⟩
theorem hnew_anyE (L : FuncId) (ltb : Ev → Ev → Bool) (w : World) : Calls Try.prog 23 #[.func (.func L) #[] #[]] w fun e w' => ∃ g F, e = .returned (.pointer (some ⟨g, 0, none⟩)) ∧ Hp7E L 70 ltb w' g F [] ∧ From F w.heap.size ∧ Below w.heap.size w w' := by
  have hmm := @run_makeMap Try.prog
  go_enter Try.func23, Try.ntmps23
  go_wp2
  go_ret
  refine ⟨w.heap.size + 1, HFE (w.heap.size + 1) (.slice none 0 0) w.heap.size, rfl, ⟨none, 0, w.heap.size, [], new_hsE w, HqE.nil, List.Perm.refl _, fun k => Iff.rfl⟩, fun k q => ?_, wbox2 _ _ _⟩
  rcases q with e | e | e
  · omega
  · omega
  · cases e
theorem shut_noE (g : Nat) (v : Value) (m : Nat) (w : World) (hb : Blk w TT g (HVE L v m false)) : Calls Try.prog 35 #[.pointer (some ⟨g, 0, none⟩)] w fun e w' => e = .returned (.bool false) ∧ w = w' := by
  have hnil : ∀ w : World, (binOp BinOp.eql 58 (.func (.func L) #[] #[]) .nilFunc).run Try.prog w = .ok (.bool false) w := fun _ => by kernel_rfl
  have c0 := hb.cell 0
  have c3 := hb.cell 3
  simp [HVE] at c0 c3
  clear hb
  go_enter Try.func35, Try.ntmps35
  go_wp2
  go_ret
  exact ⟨rfl, rfl⟩
theorem len_anyE (g : Nat) (a : Option Addr) (n cap m : Nat) (w : World) (hb : Blk w TT g (HVE L (.slice a n cap) m false)) : Calls Try.prog 34 #[.pointer (some ⟨g, 0, none⟩)] w fun e w' => e = .returned (.int .i64 n) ∧ w = w' := by
  have c1 := hb.cell 1
  simp [HVE] at c1
  clear hb
  go_enter Try.func34, Try.ntmps34
  go_wp2
  go_ret
  exact ⟨rfl, rfl⟩
theorem hlen_anyE (g : Nat) (F : Nat → Prop) (ts : List Te) (w : World) (h : Hp7E L TT ltb w g F ts) : Calls Try.prog 34 #[.pointer (some ⟨g, 0, none⟩)] w fun e w' => e = .returned (.int .i64 (ts.length : Int)) ∧ Stay7E L TT ltb w g F ts w' := by
  have h' := h
  obtain ⟨a, cap, m, xs, hs, hq, hp, hF⟩ := h
  refine (len_anyE g a xs.length cap m w hs.blk).mono ?_
  rintro e w' ⟨rfl, rfl⟩
  exact ⟨by rw [hp.length_eq], h'.stay (Below.refl _ _)⟩
/-! ### Min -/
theorem below_drewNE {n : Nat} {w W : World} (h : Below n w W) (k : Nat) : Below n w (W.drewN k) := ⟨h.os, h.tape, h.output, h.size, h.block⟩
set_option maxHeartbeats 2000000 in
theorem min_noneE (g cap m : Nat) (a : Option Addr) (w : World) (hb : Blk w TT g (HVE L (.slice a 0 cap) m false)) :
    Calls Try.prog 29 #[.pointer (some ⟨g, 0, none⟩)] w fun e w' => e = .returned (.tuple #[.int .i64 0, .agg #[.int .i64 0, .int .i64 0, .int .i64 0], .bool false]) ∧ Below w.heap.size w w' := by
  obtain ⟨W1, hW1⟩ : ∃ W1, w.alloc (.cells #[.int .i64 0, .int .i64 0, .int .i64 0] 31) = W1 := ⟨_, rfl⟩
  have B1 := Lib.hid (show Below w.heap.size w W1 by rw [← hW1]; exact wbox _ _)
  have X1 := Lib.hid (show Blk W1 31 w.heap.size #[.int .i64 0, .int .i64 0, .int .i64 0] by rw [← hW1]; exact Blk.new _ _ _)
  have BK := Lib.hid (hb.below B1.out)
  have x0 := X1.out.cell 0
  have x1 := X1.out.cell 1
  have x2 := X1.out.cell 2
  have fx : ∀ o, W1.frozen? ⟨w.heap.size, o, none⟩ = false := fun o => X1.out.free o
  simp at x0 x1 x2
  clear hb
  go_enter Try.func29, Try.ntmps29
  go_wp2_with fail
  refine (len_anyE g a 0 cap m _ BK.out).mono ?_
  rintro e w1 ⟨rfl, rfl⟩
  go_wp2_with fail
  go_region
  all_goals
    go_wp2
    exact bodyPost_ret (v := .tuple #[.int .i64 0, .agg #[.int .i64 0, .int .i64 0, .int .i64 0], .bool false]) (by simp [results, Try.results29, go_sem, x0, x1, x2]) rfl ⟨rfl, (((B1.out.setCell (by simp) _).setCell (by simp) _).setCell (by simp) _).drew⟩
set_option maxHeartbeats 4000000 in
theorem min_someE (g b n cap m : Nat) (x : Te) (w : World) (hb : Blk w TT g (HVE L (.slice (some ⟨b, 0, none⟩) n cap) m false)) (hx : TeAt w b 0 x) (hn : 0 < n) :
    Calls Try.prog 29 #[.pointer (some ⟨g, 0, none⟩)] w fun e w' => e = .returned (.tuple #[.int .i64 x.n, .agg #[.int .i64 x.e.d, .int .i64 x.e.i, .int .i64 x.e.k], .bool true]) ∧ Below w.heap.size w w' := by
  obtain ⟨W1, hW1⟩ : ∃ W1, w.alloc (.cells #[.int .i64 0, .int .i64 0, .int .i64 0] 31) = W1 := ⟨_, rfl⟩
  have B1 := Lib.hid (show Below w.heap.size w W1 by rw [← hW1]; exact wbox _ _)
  have Z1 := Lib.hid (show W1.heap.size = w.heap.size + 1 by rw [← hW1]; exact wsize _ _)
  have X1 := Lib.hid (show Blk W1 31 w.heap.size #[.int .i64 0, .int .i64 0, .int .i64 0] by rw [← hW1]; exact Blk.new _ _ _)
  have BK := Lib.hid (hb.below B1.out)
  have c1 := BK.out.cell 1
  simp [HVE] at c1
  have y0 := hb_cellE B1.out hx.c0
  have y1 := hb_cellE B1.out hx.c1
  have y2 := hb_cellE B1.out hx.c2
  have y3 := hb_cellE B1.out hx.c3
  simp at y1 y2 y3
  obtain ⟨W2, hW2⟩ : ∃ W2, W1.alloc (.cells #[.int .i64 x.n, .int .i64 x.e.d, .int .i64 x.e.i, .int .i64 x.e.k] 73) = W2 := ⟨_, rfl⟩
  have B2 := Lib.hid (show Below w.heap.size w W2 by rw [← hW2]; exact below_next B1.out (wbox _ _))
  have X2 := Lib.hid (show Blk W2 31 w.heap.size #[.int .i64 0, .int .i64 0, .int .i64 0] by rw [← hW2]; exact X1.out.alloc _)
  have Y2 := Lib.hid (show Blk W2 73 W1.heap.size #[.int .i64 x.n, .int .i64 x.e.d, .int .i64 x.e.i, .int .i64 x.e.k] by rw [← hW2]; exact Blk.new _ _ _)
  have x0 := X2.out.cell 0
  have x1 := X2.out.cell 1
  have x2 := X2.out.cell 2
  have fx : ∀ o, W2.frozen? ⟨w.heap.size, o, none⟩ = false := fun o => X2.out.free o
  have z0 := Y2.out.cell 0
  have z1 := Y2.out.cell 1
  have z2 := Y2.out.cell 2
  have z3 := Y2.out.cell 3
  simp at x0 x1 x2 z0 z1 z2 z3
  have t1 : ((n : Int) == 0) = false := by simp; omega
  have n1 : (0 : Int) < (n : Int) := by omega
  clear hb hx
  go_enter Try.func29, Try.ntmps29
  go_wp2_with fail
  refine (len_anyE g _ n cap m _ BK.out).mono ?_
  rintro e w1 ⟨rfl, rfl⟩
  go_wp2_with fail
  go_region
  all_goals
    go_wp2
    exact bodyPost_ret (v := .tuple #[.int .i64 x.n, .agg #[.int .i64 x.e.d, .int .i64 x.e.i, .int .i64 x.e.k], .bool true]) (by simp [results, Try.results29, go_sem, x0, x1, x2]) rfl ⟨rfl, (((B2.out.setCell (by simp) _).setCell (by simp) _).setCell (by simp) _).drew⟩
end Go.Proofs.Ytfeemdljlikpbaa

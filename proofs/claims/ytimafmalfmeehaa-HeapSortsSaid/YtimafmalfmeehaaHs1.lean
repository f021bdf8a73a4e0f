/-
  Two heaps of package heap side by side, beside a row of marks; what the marks say: for the law HeapSorts.
-/
import Derived.Test.YtimafmalfmeehaaHi4
namespace Go.Proofs.Ytimafmalfmeehaa
open Go.RowKit Go.Maps

theorem Hp7.perm {w : World} {g : Nat} {F : Nat → Prop} {ts us : List Th} (h : Hp7 w g F ts) (p : ts.Perm us) : Hp7 w g F us := by
  obtain ⟨a, cap, m, xs, hs, hq, hp, hF⟩ := h
  exact ⟨a, cap, m, xs, hs, hq, hp.trans p, hF⟩
/-- the things whose mark stands -/
def takenT (zs : List Int) (n : Nat) (us : List Bool) : List Th := (numT zs n).filter (fun t => us.getD t.id.toNat false)
theorem taken_len (zs : List Int) (n : Nat) (us : List Bool) : (takenT zs n us).length ≤ n := by
  have := List.length_filter_le (fun t : Th => us.getD t.id.toNat false) (numT zs n)
  rw [numT_len] at this
  exact this
theorem taken_all (zs : List Int) (n : Nat) (us : List Bool) (h : ∀ j, j < n → us.getD j false = true) : takenT zs n us = numT zs n := by
  unfold takenT
  rw [List.filter_eq_self]
  intro t ht
  obtain ⟨j, hj, rfl⟩ := numT_mem ht
  exact h j hj
theorem taken_none (zs : List Int) (n : Nat) : takenT zs n (List.replicate 40 false) = [] := by
  unfold takenT
  rw [List.filter_eq_nil_iff]
  intro t ht
  obtain ⟨j, hj, rfl⟩ := numT_mem ht
  simp only [Int.toNat_natCast]
  rw [List.getD_eq_getElem?_getD, List.getElem?_replicate]
  split <;> simp
theorem taken_new (zs : List Int) (n : Nat) (us : List Bool) (k : Nat) (h : us.getD k false = false) : placeT (takenT zs n us) (k : Int) < 0 := by
  rw [place_none (fun t ht e => ?_)]
  · omega
  · unfold takenT at ht
    rw [List.mem_filter] at ht
    rw [e] at ht
    simp only [Int.toNat_natCast] at ht
    rw [h] at ht
    cases ht.2
theorem taken_set (zs : List Int) (us : List Bool) (k : Nat) (hk : k < us.length) (h : us.getD k false = false) : ∀ n, (k < n → (takenT zs n us ++ [(⟨(k : Int), zs.getD k 0⟩ : Th)]).Perm (takenT zs n (us.set k true))) ∧ (n ≤ k → takenT zs n (us.set k true) = takenT zs n us) := by
  intro n
  have ne : ∀ j, j ≠ k → (us.set k true).getD j false = us.getD j false := fun j hj => by
    rw [List.getD_eq_getElem?_getD, List.getD_eq_getElem?_getD, List.getElem?_set_ne (Ne.symm hj)]
  have eq : (us.set k true).getD k false = true := by
    rw [List.getD_eq_getElem?_getD, List.getElem?_set, if_pos rfl, if_pos hk]; rfl
  induction n with
  | zero => exact ⟨fun h => by omega, fun _ => rfl⟩
  | succ n ih =>
    have sn : ∀ vs : List Bool, takenT zs (n + 1) vs = takenT zs n vs ++ (if vs.getD n false = true then [(⟨(n : Int), zs.getD n 0⟩ : Th)] else []) := fun vs => by
      unfold takenT
      rw [numT_snoc, List.filter_append]
      congr 1
      simp only [List.filter_cons, Int.toNat_natCast, List.filter_nil]
    rw [sn, sn]
    refine ⟨fun hkn => ?_, fun hkn => ?_⟩
    · by_cases e : n = k
      · subst e
        rw [h, eq, ih.2 (Nat.le_refl _)]
        simp
      · rw [ne n e]
        have := ih.1 (by omega)
        refine List.Perm.trans ?_ (this.append_right _)
        rw [List.append_assoc, List.append_assoc]
        exact List.Perm.append_left _ List.perm_append_comm
    · rw [ne n (by omega), ih.2 (by omega)]
/-- a heap in each hand, and the marks -/
def Duo (w : World) (g h bx : Nat) (us : List Bool) (tg th : List Th) (wr : World) : Prop :=
  ∃ F G, Hp7 wr g F tg ∧ Hp7 wr h G th ∧ Apart F G ∧ From F w.heap.size ∧ From G w.heap.size ∧ Blk wr 47 bx (us.map Value.bool).toArray ∧ ¬ F bx ∧ ¬ G bx ∧ Below w.heap.size w wr
section
variable {w wr w' : World} {g h bx : Nat} {us : List Bool} {tg th t2 : List Th}
theorem Duo.below (d : Duo w g h bx us tg th wr) : Below w.heap.size w wr := by obtain ⟨_, _, _, _, _, _, _, _, _, _, h⟩ := d; exact h
theorem Duo.box (d : Duo w g h bx us tg th wr) : Blk wr 47 bx (us.map Value.bool).toArray := by obtain ⟨_, _, _, _, _, _, _, h, _⟩ := d; exact h
theorem Duo.own (d : Duo w g h bx us tg th wr) : Own tg := by obtain ⟨_, _, h, _⟩ := d; exact h.own
theorem Duo.permG (d : Duo w g h bx us tg th wr) (p : tg.Perm t2) : Duo w g h bx us t2 th wr := by
  obtain ⟨F, G, h1, r⟩ := d
  exact ⟨F, G, h1.perm p, r⟩
theorem Duo.next (d : Duo w g h bx us tg th wr) (hb : Below wr.heap.size wr w') : Duo w g h bx us tg th w' := by
  obtain ⟨F, G, h1, h2, h3, h4, h5, h6, h7, h8, h9⟩ := d
  exact ⟨F, G, h1.keeps (G := fun _ => False) (Keeps.of hb) (fun _ _ q => q), h2.keeps (G := fun _ => False) (Keeps.of hb) (fun _ _ q => q), h3, h4, h5, h6.below hb, h7, h8, below_next h9 hb⟩
theorem Duo.mark (d : Duo w g h bx us tg th wr) (hw : w.heap.size ≤ bx) (k : Nat) : Duo w g h bx (us.set k true) tg th (wr.setCell ⟨bx, k, none⟩ (.bool true)) := by
  obtain ⟨F, G, h1, h2, h3, h4, h5, h6, h7, h8, h9⟩ := d
  have kp : Keeps (fun x => x = bx) wr (wr.setCell ⟨bx, k, none⟩ (.bool true)) := (Keeps.refl (fun x => x = bx) wr).set (.inl rfl) _ _
  refine ⟨F, G, h1.keeps kp (fun x q e => h7 (by rw [← e]; exact q)), h2.keeps kp (fun x q e => h8 (by rw [← e]; exact q)), h3, h4, h5, ?_, h7, h8, kp.below h9 (fun x e => by rw [e]; exact hw) h9.size⟩
  have := h6.setB k (.bool true)
  have e : (us.map Value.bool).toArray.setIfInBounds k (.bool true) = ((us.set k true).map Value.bool).toArray := by simp [List.map_set]
  rw [e] at this
  exact this
theorem duo_g {F G : Nat → Prop} (h2 : Hp7 wr h G th) (h3 : Apart F G) (h4 : From F w.heap.size) (h5 : From G w.heap.size) (h6 : Blk wr 47 bx (us.map Value.bool).toArray) (h7 : ¬ F bx) (h8 : ¬ G bx) (h9 : Below w.heap.size w wr) (hs : Stay7 wr g F t2 w') : Duo w g h bx us t2 th w' := by
  obtain ⟨F', h1, m⟩ := hs
  exact ⟨F', G, h1, h2.keeps m.keeps h3.symm, h3.moves m h2.lies, h4.moves m h9.size, h5, h6.keeps m.keeps h7, (fun q => (m.grow bx q).elim h7 (fun y => by have := h6.lt; omega)), h8, m.keeps.below h9 h4 h9.size⟩
theorem duo_h {F G : Nat → Prop} (h1 : Hp7 wr g F tg) (h3 : Apart F G) (h4 : From F w.heap.size) (h5 : From G w.heap.size) (h6 : Blk wr 47 bx (us.map Value.bool).toArray) (h7 : ¬ F bx) (h8 : ¬ G bx) (h9 : Below w.heap.size w wr) (hs : Stay7 wr h G t2 w') : Duo w g h bx us tg t2 w' := by
  obtain ⟨G', h2, m⟩ := hs
  exact ⟨F, G', h1.keeps m.keeps h3, h2, (h3.symm.moves m h1.lies).symm, h4, h5.moves m h9.size, h6.keeps m.keeps h8, h7, (fun q => (m.grow bx q).elim h8 (fun y => by have := h6.lt; omega)), m.keeps.below h9 h5 h9.size⟩
end
section
variable {w wr : World} (g h bx : Nat) (us : List Bool) (tg th : List Th)
theorem dpushG (id x : Int) (d : Duo w g h bx us tg th wr) (hr : InR id) (hl : tg.length ≤ 500) (hn : placeT tg id < 0) : Calls Try.prog 19 #[.pointer (some ⟨g, 0, none⟩), .int .i64 id, .int .i64 x] wr fun e w' => e = .returned (.bool true) ∧ Duo w g h bx us (tg ++ [⟨id, x⟩]) th w' := by
  obtain ⟨F, G, h1, h2, h3, h4, h5, h6, h7, h8, h9⟩ := d
  refine (hpush_any g F tg id x wr h1 hr hl).mono fun _ _ z => ?_
  rcases z with ⟨a, _⟩ | ⟨_, b, c⟩
  · omega
  · exact ⟨b, duo_g h2 h3 h4 h5 h6 h7 h8 h9 c⟩
theorem dpushH (id x : Int) (d : Duo w g h bx us tg th wr) (hr : InR id) (hl : th.length ≤ 500) (hn : placeT th id < 0) : Calls Try.prog 19 #[.pointer (some ⟨h, 0, none⟩), .int .i64 id, .int .i64 x] wr fun e w' => e = .returned (.bool true) ∧ Duo w g h bx us tg (th ++ [⟨id, x⟩]) w' := by
  obtain ⟨F, G, h1, h2, h3, h4, h5, h6, h7, h8, h9⟩ := d
  refine (hpush_any h G th id x wr h2 hr hl).mono fun _ _ z => ?_
  rcases z with ⟨a, _⟩ | ⟨_, b, c⟩
  · omega
  · exact ⟨b, duo_h h1 h3 h4 h5 h6 h7 h8 h9 c⟩
theorem dagainH (id x : Int) (d : Duo w g h bx us tg th wr) (hr : InR id) (hl : th.length ≤ 500) (hn : 0 ≤ placeT th id) : Calls Try.prog 19 #[.pointer (some ⟨h, 0, none⟩), .int .i64 id, .int .i64 x] wr fun e w' => e = .returned (.bool false) ∧ Duo w g h bx us tg th w' := by
  obtain ⟨F, G, h1, h2, h3, h4, h5, h6, h7, h8, h9⟩ := d
  refine (hpush_any h G th id x wr h2 hr hl).mono fun _ _ z => ?_
  rcases z with ⟨_, b, c⟩ | ⟨a, _⟩
  · exact ⟨b, duo_h h1 h3 h4 h5 h6 h7 h8 h9 c⟩
  · omega
def DPop (w : World) (g h bx : Nat) (us : List Bool) (tg th ts : List Th) (D : List Th → World → Prop) (e : Ending) (w' : World) : Prop := (ts = [] ∧ e = .returned (.tuple #[.int .i64 0, .int .i64 0, .bool false]) ∧ Duo w g h bx us tg th w') ∨ (∃ (k : Nat) (t : Th), ts[k]? = some t ∧ MinIn ts ts.length k ∧ e = .returned (.tuple #[.int .i64 t.id, .int .i64 t.x, .bool true]) ∧ D (ts.eraseIdx k) w')
theorem dpopG (d : Duo w g h bx us tg th wr) : Calls Try.prog 11 #[.pointer (some ⟨g, 0, none⟩)] wr (DPop w g h bx us tg th tg (fun ts w' => Duo w g h bx us ts th w')) := by
  obtain ⟨F, G, h1, h2, h3, h4, h5, h6, h7, h8, h9⟩ := d
  refine (hpop_any g F tg wr h1).mono fun _ _ z => ?_
  rcases z with ⟨a, b, c⟩ | ⟨k, t, a, b, c, q⟩
  · exact .inl ⟨a, b, duo_g h2 h3 h4 h5 h6 h7 h8 h9 c⟩
  · exact .inr ⟨k, t, a, b, c, duo_g h2 h3 h4 h5 h6 h7 h8 h9 q⟩
theorem dpopH (d : Duo w g h bx us tg th wr) : Calls Try.prog 11 #[.pointer (some ⟨h, 0, none⟩)] wr (DPop w g h bx us tg th th (fun ts w' => Duo w g h bx us tg ts w')) := by
  obtain ⟨F, G, h1, h2, h3, h4, h5, h6, h7, h8, h9⟩ := d
  refine (hpop_any h G th wr h2).mono fun _ _ z => ?_
  rcases z with ⟨a, b, c⟩ | ⟨k, t, a, b, c, q⟩
  · exact .inl ⟨a, b, duo_h h1 h3 h4 h5 h6 h7 h8 h9 c⟩
  · exact .inr ⟨k, t, a, b, c, duo_h h1 h3 h4 h5 h6 h7 h8 h9 q⟩
theorem dlenG (d : Duo w g h bx us tg th wr) : Calls Try.prog 24 #[.pointer (some ⟨g, 0, none⟩)] wr fun e w' => e = .returned (.int .i64 (tg.length : Int)) ∧ Duo w g h bx us tg th w' := by
  obtain ⟨F, G, h1, h2, h3, h4, h5, h6, h7, h8, h9⟩ := d
  exact (hlen_any g F tg wr h1).mono fun _ _ ⟨a, b⟩ => ⟨a, duo_g h2 h3 h4 h5 h6 h7 h8 h9 b⟩
theorem dlenH (d : Duo w g h bx us tg th wr) : Calls Try.prog 24 #[.pointer (some ⟨h, 0, none⟩)] wr fun e w' => e = .returned (.int .i64 (th.length : Int)) ∧ Duo w g h bx us tg th w' := by
  obtain ⟨F, G, h1, h2, h3, h4, h5, h6, h7, h8, h9⟩ := d
  exact (hlen_any h G th wr h2).mono fun _ _ ⟨a, b⟩ => ⟨a, duo_h h1 h3 h4 h5 h6 h7 h8 h9 b⟩
end
end Go.Proofs.Ytimafmalfmeehaa

/-
  Package seats meets what is asked of it.
-/
import Derived.Test.YtgkmhnkndjfcaaaUv0
namespace Go.Proofs.Ytgkmhnkndjfcaaa
open Go.RowKit

theorem bools_set {n x : Nat} {fr fr' : List Int} {b : Bool} (h : ∀ i : Nat, i < n → i ≠ x → ((i : Int) ∈ fr' ↔ (i : Int) ∈ fr)) (hb : b = !decide ((x : Int) ∈ fr')) :
    (bools n fr).toArray.setIfInBounds x (.bool b) = (bools n fr').toArray := by
  apply Array.ext'
  apply List.ext_getElem?
  intro i
  rw [Array.toList_setIfInBounds, List.getElem?_set]
  by_cases hi : i < n
  · by_cases e : x = i
    · subst e
      rw [if_pos rfl, if_pos (by rw [bools_len]; exact hi), bools_at fr' hi, hb]
    · rw [if_neg e, bools_at fr hi, bools_at fr' hi, decide_eq_decide.mpr (h i hi (fun q => e q.symm))]
  · have h1 : (bools n fr).length ≤ i := by rw [bools_len]; omega
    have h2 : (bools n fr').length ≤ i := by rw [bools_len]; omega
    by_cases e : x = i
    · subst e
      rw [if_pos rfl, if_neg (show ¬ x < (bools n fr).toArray.toList.length from Nat.not_lt.mpr h1), List.getElem?_eq_none h2]
    · rw [if_neg e, List.getElem?_eq_none h1, List.getElem?_eq_none h2]
theorem bools_new (n : Nat) : Array.replicate n (Value.bool false) = (bools n (ups n)).toArray := by
  apply Array.ext'
  apply List.ext_getElem?
  intro i
  by_cases hi : i < n
  · rw [bools_at _ hi]
    have : (i : Int) ∈ ups n := ups_mem.mpr (by omega)
    simp [hi, this]
  · rw [List.getElem?_eq_none (by simp; omega), List.getElem?_eq_none (show (bools n (ups n)).length ≤ i by rw [bools_len]; omega)]
theorem blk_at {w w' : World} {T : TypeId} {g : Nat} {cs : Array Value} (h : Blk w T g cs) (e : w'.heap[g]? = w.heap[g]?) : Blk w' T g cs := e.trans h
theorem HpS.lies {w : World} {g : Nat} {F : Nat → Prop} {n : Nat} {fr : List Int} (h : HpS w g F n fr) : Lies F w := by
  obtain ⟨_, c, tk, rfl, _, _, _, X, C, Y⟩ := h
  rintro k (e | e | e)
  · rw [e]; exact X.lt
  · rw [e]; exact C.lt
  · rw [e]; exact Y.lt
theorem HpS.keeps {w w' : World} {g : Nat} {F G : Nat → Prop} {n : Nat} {fr : List Int} (h : HpS w g F n fr) (k : Keeps G w w') (ap : Apart F G) : HpS w' g F n fr := by
  obtain ⟨hg, c, tk, rfl, h1, h2, h3, X, C, Y⟩ := h
  exact ⟨hg, c, tk, rfl, h1, h2, h3, X.keeps k (ap g (.inl rfl)), C.on (k.block c C.lt (ap c (.inr (.inl rfl)))), Y.keeps k (ap tk (.inr (.inr rfl)))⟩
theorem HpS.same {w : World} {g : Nat} {F : Nat → Prop} {n : Nat} {fr : List Int} (h : HpS w g F n fr) : StaysS HpS w g F n fr w := ⟨F, h, Moves.refl h.lies⟩
theorem HpS.below {w w' : World} {g : Nat} {F : Nat → Prop} {n : Nat} {fr : List Int} (h : HpS w g F n fr) (b : Below w.heap.size w w') : StaysS HpS w g F n fr w' :=
  ⟨F, h.keeps (Keeps.of (F := fun _ => False) b) (fun _ _ q => q), Moves.of b h.lies⟩
/-- what changed lies in the channel and in the row -/
theorem HpS.move {w w' : World} {g c tk n : Nat} {fr fr' : List Int} (gc : g ≠ c) (gt : g ≠ tk) (ct : c ≠ tk) (X : Blk w 43 g #[.chan (some c), .slice (some ⟨tk, 0, none⟩) n n]) (C : Ch w' c n fr') (hg : GoodF n fr')
    (Y : Blk w 4 tk (bools n fr).toArray) (x : Nat) (b : Bool) (hs : (bools n fr).toArray.setIfInBounds x (.bool b) = (bools n fr').toArray)
    (hk : ∀ k, k ≠ c → w'.heap[k]? = (w.setCell ⟨tk, x, none⟩ (.bool b)).heap[k]?) (sz : w'.heap.size = w.heap.size) (o1 : w'.os = w.os) (o2 : w'.tape = w.tape) (o3 : w'.output = w.output) :
    StaysS HpS w g (fun k => k = g ∨ k = c ∨ k = tk) n fr' w' := by
  have hs2 : ∀ k, k ≠ tk → (w.setCell ⟨tk, x, none⟩ (.bool b)).heap[k]? = w.heap[k]? := fun k q => Below.heap_setCell w ⟨tk, x, none⟩ (.bool b) k q
  refine ⟨_, ⟨hg, c, tk, rfl, gc, gt, ct, blk_at X ((hk g gc).trans (hs2 g gt)), C, ?_⟩, ⟨⟨o1, o2, o3, Nat.le_of_eq sz.symm, fun k _ hf => ?_⟩, fun k q => .inl q, fun k q => ?_⟩⟩
  · have h1 : Blk (w.setCell ⟨tk, x, none⟩ (.bool b)) 4 tk ((bools n fr).toArray.setIfInBounds x (.bool b)) := heap_setCell_same w tk x _ _ _ Y
    rw [hs] at h1
    exact blk_at h1 (hk tk (fun e => ct e.symm))
  · exact (hk k (fun e => hf (.inr (.inl e)))).trans (hs2 k (fun e => hf (.inr (.inr e))))
  · rw [sz]
    rcases q with e | e | e
    · rw [e]; exact X.lt
    · rw [e]; have := C.lt; omega
    · rw [e]; exact Y.lt
theorem seatsOk : SeatsOk HpS where
  lies := HpS.lies
  keeps := HpS.keeps
  good := fun h => h.1
  new_yes := fun n w h1 h2 => (snew_yes n w h1 h2).mono fun _ _ ⟨g, c, tk, hz, S⟩ => ⟨g, fun k => k = g ∨ k = c ∨ k = tk, hz,
    ⟨good_new h1 h2, c, tk, rfl, S.ne.1, S.ne.2.1, S.ne.2.2, S.blk, S.ch, by have := S.row; rwa [bools_new] at this⟩,
    fun k q => q.elim (fun e => by rw [e]; exact S.lo.1) (fun q => q.elim (fun e => by rw [e]; exact S.lo.2.1) (fun e => by rw [e]; exact S.lo.2.2)), S.below⟩
  new_no := fun m w h => (snew_no m w h).mono fun _ _ ⟨a, b⟩ => ⟨a, by rw [b]; exact Below.refl _ _⟩
  take := fun g F n fr w h => by
    have HH := h
    obtain ⟨hg, c, tk, rfl, gc, gt, ct, X, C, Y⟩ := h
    cases fr with
    | nil => exact (stake_none g c tk n w X C).mono fun _ _ ⟨a, b⟩ => ⟨a, by rw [b]; exact HH.same⟩
    | cons y fr =>
      have hy := hg.rng y (List.mem_cons_self ..)
      have hnd := (List.nodup_cons.mp hg.nd).1
      obtain ⟨x, rfl⟩ : ∃ x : Nat, y = (x : Int) := ⟨y.toNat, by omega⟩
      have hs : (bools n ((x : Int) :: fr)).toArray.setIfInBounds x (.bool true) = (bools n fr).toArray := by
        refine bools_set (fun i _ q => ?_) (by simp [hnd])
        rw [List.mem_cons]
        exact ⟨fun q => .inr q, fun z => z.elim (fun e => by omega) id⟩
      refine (stake_some g c tk n x fr _ w X C Y gc (fun e => ct e.symm) (by omega) (by simp [bools_len])).mono ?_
      rintro _ w' ⟨a, wx, C1, KK, SZ, o1, o2, o3, rfl⟩
      have hk : ∀ k, k ≠ c → (wx.setCell ⟨tk, x, none⟩ (.bool true)).heap[k]? = (w.setCell ⟨tk, x, none⟩ (.bool true)).heap[k]? := fun k q => by
        by_cases e : k = tk
        · rw [e]
          have h1 : Blk (w.setCell ⟨tk, x, none⟩ (.bool true)) 4 tk _ := heap_setCell_same w tk x _ _ _ Y
          have h2 : Blk (wx.setCell ⟨tk, x, none⟩ (.bool true)) 4 tk _ := heap_setCell_same wx tk x _ _ _ (blk_at Y (KK tk (fun e => ct e.symm)))
          exact Eq.trans h2 h1.symm
        · exact (Below.heap_setCell wx ⟨tk, x, none⟩ (.bool true) k e).trans ((KK k q).trans (Below.heap_setCell w ⟨tk, x, none⟩ (.bool true) k e).symm)
      exact ⟨a, HpS.move gc gt ct X (C1.on (Below.heap_setCell wx ⟨tk, x, none⟩ (.bool true) c ct)) hg.tail Y x true hs hk (by simpa using SZ) o1 o2 o3⟩
  give := fun g F n fr id w h => by
    have HH := h
    obtain ⟨hg, c, tk, rfl, gc, gt, ct, X, C, Y⟩ := h
    by_cases p : 0 ≤ id ∧ id < n
    · obtain ⟨x, rfl⟩ : ∃ x : Nat, id = (x : Int) := ⟨id.toNat, by omega⟩
      have hx : x < n := by omega
      have hb := bools_at fr hx
      by_cases q : (x : Int) ∈ fr
      · have V : giveV n fr x = (12, fr) := by unfold giveV; rw [if_pos p, if_pos q]
        rw [V]
        exact (sgive_none g c tk n x _ w X Y hx (by rw [decide_eq_true q] at hb; simpa using hb)).mono fun _ _ ⟨a, b⟩ => ⟨a, by rw [b]; exact HH.same⟩
      · have V : giveV n fr x = (0, fr ++ [(x : Int)]) := by unfold giveV; rw [if_pos p, if_neg q]
        have G2 := hg.give x
        have hl : fr.length < n := by
          have := ids_len G2
          have := G2.len
          rw [V, List.length_append] at this
          simp at this
          omega
        rw [V] at G2 ⊢
        have hs : (bools n fr).toArray.setIfInBounds x (.bool false) = (bools n (fr ++ [(x : Int)])).toArray := by
          refine bools_set (fun i _ z => ?_) (by simp)
          rw [List.mem_append, List.mem_singleton]
          exact ⟨fun h => h.elim (fun h => h) (fun e => by omega), fun h => .inl h⟩
        exact (sgive_back g c tk n x fr _ w X C Y gt ct hx (by rw [decide_eq_false q] at hb; simpa using hb) hl).mono fun _ _ ⟨a, b, k, s, o1, o2, o3⟩ => ⟨a, HpS.move gc gt ct X b G2 Y x false hs k s o1 o2 o3⟩
    · have V : giveV n fr id = (1, fr) := by unfold giveV; rw [if_neg p]
      rw [V]
      exact (sgive_arg g n _ id _ w X p).mono fun _ _ ⟨a, b⟩ => ⟨a, by rw [b]; exact HH.same⟩
  taken := fun g F n fr id w h => by
    have HH := h
    obtain ⟨hg, c, tk, rfl, gc, gt, ct, X, C, Y⟩ := h
    exact (staken_any g tk n _ fr id w X Y).mono fun _ _ ⟨a, b⟩ => ⟨a, by rw [b]; exact HH.same⟩
  left := fun g F n fr w h => by
    have HH := h
    obtain ⟨hg, c, tk, rfl, gc, gt, ct, X, C, Y⟩ := h
    exact (sleft_any g c n fr _ w X C).mono fun _ _ ⟨a, b⟩ => ⟨a, by rw [b]; exact HH.same⟩
  ids := fun g F n fr w h => by
    have HH := h
    obtain ⟨hg, c, tk, rfl, gc, gt, ct, X, C, Y⟩ := h
    exact (sids_any g tk n _ fr w hg.n64 X Y).mono fun _ _ ⟨a, cap, hz, hr, b⟩ => ⟨a, _, cap, hz, hr, HH.below b⟩
  take_nil := fun w => stake_nil w
  give_nil := fun id w => (sgive_nil id w).mono fun _ _ ⟨a, b⟩ => ⟨a, by rw [b]; exact Below.refl _ _⟩
  taken_nil := fun id w => (staken_nil id w).mono fun _ _ ⟨a, b⟩ => ⟨a, by rw [b]; exact Below.refl _ _⟩
  left_nil := fun w => (sleft_nil w).mono fun _ _ ⟨a, b⟩ => ⟨a, by rw [b]; exact Below.refl _ _⟩
  ids_nil := fun w => (sids_nil w).mono fun _ _ ⟨a, b⟩ => ⟨⟨none, 0, a⟩, by rw [b]; exact Below.refl _ _⟩
end Go.Proofs.Ytgkmhnkndjfcaaa

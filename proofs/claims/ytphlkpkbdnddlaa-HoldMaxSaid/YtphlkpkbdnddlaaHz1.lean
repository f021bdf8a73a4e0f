/-
  Package hold as landed: its map of holders in memory, as a list of holders in the order of their entries: read, written, deleted. Plain facts on sums.
-/
import Derived.Test.YtphlkpkbdnddlaaHaA
import Derived.Maps.RangeRun
import Derived.ChangeMaps5
namespace Go.Proofs.Ytphlkpkbdnddlaa
open Go.RowKit

/-- what the map holds of a holder -/
def Hd.mv (h : Hd) : Value := .agg #[.int .i64 h.E, .int .i64 h.P, .int .i64 h.NE, .int .i64 h.NP]
def kvE (e : MapEntry) : Value × Value := (e.key, e.val)
def Hd.kv (h : Hd) : Value × Value := (.int .i64 h.id, h.mv)
theorem kv_cons {e : MapEntry} {es : List MapEntry} {h : Hd} {hs : List Hd} (q : (e :: es).map kvE = (h :: hs).map Hd.kv) : e.key = .int .i64 h.id ∧ e.val = h.mv ∧ es.map kvE = hs.map Hd.kv := by
  rw [List.map_cons, List.map_cons] at q
  obtain ⟨h1, h2⟩ := List.cons.inj q
  exact ⟨(Prod.mk.inj h1).1, (Prod.mk.inj h1).2, h2⟩
theorem find_cons (h : Hd) (hs : List Hd) (id : Int) : findH (h :: hs) id = if h.id = id then some 0 else (findH hs id).map (· + 1) := by
  unfold findH
  rw [List.findIdx?_cons]
  by_cases q : h.id = id
  · rw [if_pos q]; simp [q]
  · rw [if_neg q]; simp [q]
theorem findNow_H (id : Int) (es : List MapEntry) (hs : List Hd) (i : Nat) (q : es.map kvE = hs.map Hd.kv) : Instr.findNow (.int .i64) (.int .i64 id) es i = some ((findH hs id).bind fun j => (hs[j]?).map fun h => (i + j, h.mv)) := by
  induction es generalizing hs i with
  | nil =>
    cases hs with
    | nil => rfl
    | cons h hs => cases q
  | cons e es ih =>
    cases hs with
    | nil => cases q
    | cons h hs =>
      obtain ⟨q1, q2, q3⟩ := kv_cons q
      have hi := ih hs (i + 1) q3
      rw [find_cons]
      by_cases k : h.id = id
      · rw [if_pos k]
        simp [Instr.findNow, Instr.sameNow, q1, q2, k]
      · rw [if_neg k]
        have k' : ¬ id = h.id := fun e => k e.symm
        simp only [Instr.findNow, Instr.sameNow, q1, if_true, beq_eq_false_iff_ne.mpr k']
        rw [hi]
        cases findH hs id with
        | none => rfl
        | some j =>
          show some ((hs[j]?).map _) = some (((h :: hs)[j + 1]?).map _)
          rw [List.getElem?_cons_succ]
          cases hs[j]? with
          | none => rfl
          | some x => simp only [Option.map_some]; rw [show i + 1 + j = i + (j + 1) by omega]
/-- the block m is a map of these holders -/
structure MapH' (w : World) (m : Nat) (hs : List Hd) (es : Array MapEntry) (clock : Nat) : Prop where
  blk : w.heap[m]? = some (.map es clock)
  kv : es.toList.map kvE = hs.map Hd.kv
  born : ∀ x ∈ es.toList, x.born < clock
  nodup : (es.toList.map (·.born)).Nodup
def MapH (w : World) (m : Nat) (hs : List Hd) : Prop := ∃ es clock, MapH' w m hs es clock
theorem MapH.lt {w : World} {m : Nat} {hs : List Hd} (h : MapH w m hs) : m < w.heap.size := by
  obtain ⟨es, clock, hb, _⟩ := h
  exact (Array.getElem?_eq_some_iff.1 hb).1
theorem MapH.of_block {w w' : World} {m : Nat} {hs : List Hd} (h : MapH w m hs) (hb : w'.heap[m]? = w.heap[m]?) : MapH w' m hs := by
  obtain ⟨es, clock, h1, h2, h3, h4⟩ := h
  exact ⟨es, clock, hb.trans h1, h2, h3, h4⟩
theorem MapH.keeps {w w' : World} {m : Nat} {hs : List Hd} {G : Nat → Prop} (h : MapH w m hs) (k : Keeps G w w') (hG : ¬ G m) : MapH w' m hs := h.of_block (k.block m h.lt hG)
theorem MapH.below {w w' : World} {m : Nat} {hs : List Hd} (h : MapH w m hs) (k : Below w.heap.size w w') : MapH w' m hs := h.of_block (k.block m h.lt)
theorem MapH.alloc {w : World} {m : Nat} {hs : List Hd} (h : MapH w m hs) (o : Obj) : MapH (w.alloc o) m hs := h.below (wbox _ _)
theorem MapH.len {w : World} {m : Nat} {hs : List Hd} {es : Array MapEntry} {clock : Nat} (h : MapH' w m hs es clock) : es.size = hs.length := by
  have := congrArg List.length h.kv
  simpa using this
theorem MapH.nocell {w : World} {m : Nat} {hs : List Hd} (h : MapH w m hs) (j : Nat) (v : Value) : w.cell? ⟨m, j, none⟩ ≠ some v := by
  obtain ⟨es, clock, hb, _⟩ := h
  simp [World.cell?, hb]
theorem isKeyI (id : Int) : MapKept.IsKey (.int .i64) (.int .i64 id) := rfl
theorem lookH_no {w : World} {m : Nat} {hs : List Hd} {id : Int} (h : MapH w m hs) (hf : findH hs id = none) : (Instr.lookup 66 (.map (some m)) (.int .i64 id) true).run Try.prog w = .ok (.tuple #[.agg #[.int .i64 0, .int .i64 0, .int .i64 0, .int .i64 0], .bool false]) w := by
  obtain ⟨es, clock, h1, h2, _⟩ := h
  have k := findNow_H id es.toList hs 0 h2
  rw [hf] at k
  simp [Instr.lookup, run_underlying Try.underlying66, MapKept.run_getObj_map h1, MapKept.run_checkKey Try.underlying3 (isKeyI id), MapKept.run_findKey Try.underlying3 k, Result.andThen]
theorem lookH_yes {w : World} {m : Nat} {hs : List Hd} {id : Int} {j : Nat} {x : Hd} (h : MapH w m hs) (hf : findH hs id = some j) (hx : hs[j]? = some x) : (Instr.lookup 66 (.map (some m)) (.int .i64 id) true).run Try.prog w = .ok (.tuple #[x.mv, .bool true]) w := by
  obtain ⟨es, clock, h1, h2, _⟩ := h
  have k := findNow_H id es.toList hs 0 h2
  rw [hf] at k
  simp only [Option.bind_some, hx, Option.map_some] at k
  simp [Instr.lookup, run_underlying Try.underlying66, MapKept.run_getObj_map h1, MapKept.run_checkKey Try.underlying3 (isKeyI id), MapKept.run_findKey Try.underlying3 k, Result.andThen]
theorem kv_modify (i : Nat) (f : MapEntry → MapEntry) (n : Hd) (es : List MapEntry) (hs : List Hd) (q : es.map kvE = hs.map Hd.kv) (hf : ∀ e, kvE (f e) = n.kv) : (es.modify i f).map kvE = (hs.set i n).map Hd.kv := by
  induction es generalizing hs i with
  | nil =>
    cases hs with
    | nil => simp
    | cons h hs => cases q
  | cons e es ih =>
    cases hs with
    | nil => cases q
    | cons h hs =>
      obtain ⟨q1, q2, q3⟩ := kv_cons q
      cases i with
      | zero =>
        rw [List.modify_zero_cons, List.set_cons_zero, List.map_cons, List.map_cons, hf, q3]
      | succ i =>
        rw [List.modify_succ_cons, List.set_cons_succ, List.map_cons, List.map_cons, ih i hs q3]
        simp [kvE, Hd.kv, q1, q2]
theorem born_modify (i : Nat) (f : MapEntry → MapEntry) (es : List MapEntry) (hf : ∀ e, (f e).born = e.born) : (es.modify i f).map (·.born) = es.map (·.born) := by
  induction es generalizing i with
  | nil => simp
  | cons e es ih =>
    cases i with
    | zero => rw [List.modify_zero_cons, List.map_cons, List.map_cons, hf]
    | succ i => rw [List.modify_succ_cons, List.map_cons, List.map_cons, ih i]
/-- a block written, all else as it was -/
theorem keeps_setBlock {w : World} {b : Nat} {F : Nat → Prop} (hF : F b) (o : Obj) : Keeps F w (ChangeMaps.setBlock w b o) :=
  ⟨rfl, rfl, rfl, by simp [ChangeMaps.setBlock], fun k _ hk => by
    have : b ≠ k := fun e => hk (e ▸ hF)
    simp [ChangeMaps.setBlock, Array.getElem?_setIfInBounds_ne this]⟩
theorem size_setBlock (w : World) (b : Nat) (o : Obj) : (ChangeMaps.setBlock w b o).heap.size = w.heap.size := by simp [ChangeMaps.setBlock]
theorem putH_new {w : World} {m : Nat} {hs : List Hd} {n : Hd} (h : MapH w m hs) (hf : findH hs n.id = none) : ∃ w', (Instr.mapUpdate 66 (.map (some m)) (.int .i64 n.id) n.mv).run Try.prog w = .ok () w' ∧ MapH w' m (hs ++ [n]) ∧ Keeps (fun k => k = m) w w' ∧ w'.heap.size = w.heap.size := by
  obtain ⟨es, clock, h1, h2, h3, h4⟩ := h
  have k := findNow_H n.id es.toList hs 0 h2
  rw [hf] at k
  refine ⟨ChangeMaps.setBlock w m (.map (es.push { key := .int .i64 n.id, val := n.mv, born := clock }) (clock + 1)), ?_, ⟨_, _, (MapKept.heap_set h1).1, ?_, ?_, ?_⟩, keeps_setBlock (F := fun k => k = m) rfl _, size_setBlock _ _ _⟩
  · simp [Instr.mapUpdate, run_underlying Try.underlying66, MapKept.run_getObj_map h1, MapKept.run_checkKey Try.underlying3 (isKeyI n.id), MapKept.run_findKey Try.underlying3 k, MapKept.run_setObj_map _ h1, Result.andThen, ChangeMaps.setBlock]
  · rw [Array.toList_push, List.map_append, List.map_append, h2]; rfl
  · intro x hx
    rw [Array.toList_push] at hx
    rcases List.mem_append.mp hx with q | q
    · have := h3 x q; omega
    · simp at q; subst q; exact Nat.lt_succ_self _
  · rw [Array.toList_push, List.map_append]
    refine List.nodup_append.mpr ⟨h4, by simp, fun a ha b hb => ?_⟩
    obtain ⟨x, hx, rfl⟩ := List.mem_map.mp ha
    simp at hb
    have := h3 x hx
    omega
theorem putH_old {w : World} {m : Nat} {hs : List Hd} {j : Nat} {x n : Hd} (h : MapH w m hs) (hf : findH hs n.id = some j) (hj : hs[j]? = some x) : ∃ w', (Instr.mapUpdate 66 (.map (some m)) (.int .i64 n.id) n.mv).run Try.prog w = .ok () w' ∧ MapH w' m (hs.set j n) ∧ Keeps (fun k => k = m) w w' ∧ w'.heap.size = w.heap.size := by
  obtain ⟨es, clock, h1, h2, h3, h4⟩ := h
  have k := findNow_H n.id es.toList hs 0 h2
  rw [hf] at k
  simp only [Option.bind_some, hj, Option.map_some, Nat.zero_add] at k
  obtain ⟨y, hy, hid⟩ := findH_some hf
  have hjl : j < es.toList.length := by
    have e := congrArg List.length h2
    rw [List.length_map, List.length_map] at e
    rcases Nat.lt_or_ge j hs.length with q | q
    · omega
    · rw [List.getElem?_eq_none q] at hj; cases hj
  obtain ⟨e0, he0⟩ : ∃ e0, es.toList[j]? = some e0 := ⟨_, List.getElem?_eq_getElem hjl⟩
  have hke : e0.key = .int .i64 n.id := by
    have e := congrArg (·[j]?) h2
    simp only [List.getElem?_map, he0, hy, Option.map_some] at e
    have := (Prod.mk.inj (Option.some.inj e)).1
    rw [← hid]; exact this
  have hej : es[j]? = some e0 := by simpa using he0
  refine ⟨ChangeMaps.setBlock w m (.map (es.modify j fun e => { e with key := .int .i64 n.id, val := n.mv }) clock), ?_, ⟨_, _, (MapKept.heap_set h1).1, ?_, ?_, ?_⟩, keeps_setBlock (F := fun k => k = m) rfl _, size_setBlock _ _ _⟩
  · simp [Instr.mapUpdate, run_underlying Try.underlying66, MapKept.run_getObj_map h1, MapKept.run_checkKey Try.underlying3 (isKeyI n.id), MapKept.run_findKey Try.underlying3 k, hej, hke, MapKept.run_keyThatStays (isKeyI n.id), MapKept.run_setObj_map _ h1, Result.andThen, ChangeMaps.setBlock]
  · rw [Array.toList_modify]; exact kv_modify j _ n _ _ h2 (fun _ => rfl)
  · intro z hz
    rw [Array.toList_modify] at hz
    have e := born_modify j (fun e : MapEntry => { e with key := .int .i64 n.id, val := n.mv }) es.toList (fun _ => rfl)
    have hm : z.born ∈ es.toList.map (·.born) := by rw [← e]; exact List.mem_map_of_mem hz
    obtain ⟨u, hu, hub⟩ := List.mem_map.mp hm
    have := h3 u hu
    omega
  · rw [Array.toList_modify, born_modify j (fun e : MapEntry => { e with key := .int .i64 n.id, val := n.mv }) es.toList (fun _ => rfl)]; exact h4
theorem map_erase {α β : Type} (f : α → β) (l : List α) (j : Nat) : (l.eraseIdx j).map f = (l.map f).eraseIdx j := by
  induction l generalizing j with
  | nil => rfl
  | cons x l ih =>
    cases j with
    | zero => rfl
    | succ j => rw [List.eraseIdx_cons_succ, List.map_cons, List.map_cons, List.eraseIdx_cons_succ, ih]
theorem delH {w : World} {m : Nat} {hs : List Hd} {id : Int} {j : Nat} (ty : TypeId) (h : MapH w m hs) (hf : findH hs id = some j) : ∃ w', (Builtin.delete_ #[66, 3] ty #[.map (some m), .int .i64 id]).run Try.prog w = .ok (.tuple #[]) w' ∧ MapH w' m (hs.eraseIdx j) ∧ Keeps (fun k => k = m) w w' ∧ w'.heap.size = w.heap.size := by
  obtain ⟨es, clock, h1, h2, h3, h4⟩ := h
  have k := findNow_H id es.toList hs 0 h2
  obtain ⟨y, hy, hid⟩ := findH_some hf
  rw [hf] at k
  simp only [Option.bind_some, hy, Option.map_some, Nat.zero_add] at k
  have he : (es.eraseIdxIfInBounds j).toList = es.toList.eraseIdx j := by
    unfold Array.eraseIdxIfInBounds
    split
    · simp
    · rename_i q
      rw [List.eraseIdx_of_length_le (by simpa using q)]
  refine ⟨ChangeMaps.setBlock w m (.map (es.eraseIdxIfInBounds j) clock), ?_, ⟨_, _, (MapKept.heap_set h1).1, ?_, ?_, ?_⟩, keeps_setBlock (F := fun k => k = m) rfl _, size_setBlock _ _ _⟩
  · simp [Builtin.delete_, run_underlying Try.underlying66, MapKept.run_getObj_map h1, MapKept.run_checkKey Try.underlying3 (isKeyI id), MapKept.run_findKey Try.underlying3 k, MapKept.run_setObj_map _ h1, Result.andThen, ChangeMaps.setBlock]
  · rw [he, map_erase, map_erase, h2]
  · intro x hx
    rw [he] at hx
    exact h3 x (List.mem_of_mem_eraseIdx hx)
  · rw [he, map_erase]
    exact List.Sublist.nodup (List.eraseIdx_sublist _ _) h4
/-! ### sums hang on no order -/
theorem sumR_perm {a b : List (Int × Int)} (h : a.Perm b) : sumR a = sumR b := by
  induction h with
  | nil => rfl
  | cons x _ ih => rw [sumR_cons, sumR_cons, ih]
  | swap x y l => rw [sumR_cons, sumR_cons, sumR_cons, sumR_cons]; simp only [Prod.mk.injEq]; constructor <;> grind
  | trans _ _ ih1 ih2 => exact ih1.trans ih2
/-- a holder that asks: it fits, if what it asks for fits in place of what it has -/
theorem fits_ask {N D : Int} {hs : List Hd} (g : GoodL N D hs) {j : Nat} {x : Hd} (hj : hs[j]? = some x) (ha : x.asked = false) {E P : Int} (hM : MayBe E P) : fitsV N D hs E P x.E x.P = fitH N D (hs.set j (askH x E P)) := by
  have gx := g.each x (List.mem_of_getElem? hj)
  obtain ⟨c0, c1⟩ := sumH_frac (each_erase g.each j)
  have hx : holdsV x = (x.E, x.P) := by unfold holdsV; rw [if_neg (by simp [ha])]
  have hn : holdsV (askH x E P) = if x.E * P < E * x.P then (E, P) else (x.E, x.P) := by unfold holdsV askH; simp
  have hf := fit_le.mp g.fit
  rw [fitsV_two hM gx.now]
  rw [sum_at hj, hx] at hf
  unfold fitH
  rw [sum_at hj, sum_set _ hj, hx, hn]
  revert c0 c1 hf
  generalize sumH (hs.eraseIdx j) = c
  obtain ⟨c1, c2⟩ := c
  simp only
  intro c0 cp hf
  obtain ⟨m1, m2, _⟩ := hM
  obtain ⟨x1, x2, _⟩ := gx.now
  have hD := g.d0
  have k1 : x.E * (c2 * x.P * P) ≤ ((c1 * x.P + x.E * c2) * P + E * (c2 * x.P)) * x.P := by
    have e : ((c1 * x.P + x.E * c2) * P + E * (c2 * x.P)) * x.P = x.E * (c2 * x.P * P) + (c1 * (x.P * (P * x.P)) + E * (c2 * (x.P * x.P))) := by grind
    have q1 : 0 ≤ c1 * (x.P * (P * x.P)) := Int.mul_nonneg c0 (Int.mul_nonneg (by omega) (Int.mul_nonneg (by omega) (by omega)))
    have q2 : 0 ≤ E * (c2 * (x.P * x.P)) := Int.mul_nonneg (by omega) (Int.mul_nonneg (by omega) (Int.mul_nonneg (by omega) (by omega)))
    omega
  have k2 : (((c1 * x.P + x.E * c2) * P + E * (c2 * x.P)) * (D * x.P) ≤ (N * x.P + x.E * D) * (c2 * x.P * P)) ↔ (c1 * P + E * c2) * D ≤ N * (c2 * P) := by
    have hp : 0 < x.P * x.P := Int.mul_pos (by omega) (by omega)
    have e1 : ((c1 * x.P + x.E * c2) * P + E * (c2 * x.P)) * (D * x.P) = (c1 * P + E * c2) * D * (x.P * x.P) + x.E * (c2 * (P * (D * x.P))) := by grind
    have e2 : (N * x.P + x.E * D) * (c2 * x.P * P) = N * (c2 * P) * (x.P * x.P) + x.E * (c2 * (P * (D * x.P))) := by grind
    rw [e1, e2]
    constructor
    · intro q; exact Int.le_of_mul_le_mul_right (show (c1 * P + E * c2) * D * (x.P * x.P) ≤ N * (c2 * P) * (x.P * x.P) by omega) hp
    · intro q; have := Int.mul_le_mul_of_nonneg_right q (show 0 ≤ x.P * x.P by omega); omega
  rw [decide_eq_true k1, Bool.true_and]
  by_cases q : x.E * P < E * x.P
  · rw [if_pos q]
    exact decide_eq_decide.mpr k2
  · rw [if_neg q]
    have k3 : (c1 * P + E * c2) * D ≤ N * (c2 * P) := le_part cp (show 0 < x.P by omega) hD (by omega) (by omega) hf
    rw [decide_eq_true (k2.mpr k3), decide_eq_true hf]
end Go.Proofs.Ytphlkpkbdnddlaa
